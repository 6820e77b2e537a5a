import PyProof.Rows.All
import Wide.All
import OpenK.AllK
import Wide.FinOn
import HandS.Base
import HandS.Call
import HandS.List
import HandS.Comp
import HandS.Ends
import HandS.Iter
import HandS.Words
import HandS.WordsList
import HandS.Wide
import HandS.Conv
import PyProof.ReprRoads
import KE.GoesEnumKw
import HandS.IsInst
import HandS.Zip
import HandS.SortInts
import HandS.RaiseMore
import KE.DataEq
import HandS.Evl
import HandS.Style
import PyProof.Rows.SeqMore
import HandS.Gcd
import HandS.Exc
import HandS.TryOnly
import HandS.ExcOwn
import HandS.ExcInit
import HandS.ExcIs
import HandS.ExcField
import HandS.WordsExc
import KE.KExcSuper
import KE.KExcIs
import HandS.CallSlots
import HandS.Rev
import KE.DataAny
import HandS.TupMul
import HandS.Property
import OpenK.KMeth
import OpenK.KOps
import HandS.Text
import HandS.Codes
import HandS.StrMore
import HandS.WideBits
import HandS.FStr
import HandS.More
import HandS.TryMany
import HandS.Walk
import HandS.Deep
import KE.KSortKeySt
import HandS.Dict
import HandS.DictComp
import KE.KItemsList
import KE.DataMinMax
import HandS.SortKw
import PySem.Challenge.RW_backafter_k35_rules_refused
set_option Elab.async false
set_option linter.all false
set_option maxRecDepth 100000
set_option maxHeartbeats 4000000
namespace Bk
open PySem PySem.Spec PyProof.Rows L2

/-! ### room, and nothing of repr on the stack -/
structure Rm (k : Nat) (A : Around) : Prop where
  rm : Room k A
  gd : A.guards = some []
theorem Rm.mono {j k : Nat} {A : Around} (r : Rm k A) (h : j ≤ k) : Rm j A := ⟨r.rm.mono h, r.gd⟩
theorem Rm.deep {k : Nat} {A : Around} (r : Rm (k + 1) A) (env : Env) : Rm k (A.deeper env) := ⟨r.rm.deeper env, r.gd⟩

/-- a def's promise where the stack holds no repr -/
structure FnG (P : Program) (w : World) (K : PySem.W.Frag) (mg : Str → Option Value) (base : Heap) (CX : CXT) (k : Nat) (f : Addr) (fd : FuncData) (ps : List Str) (sp : Sp) : Prop where
  len : ∀ vs H Q E, sp vs H Q E → vs.length = ps.length
  run : ∀ (A : Around) (out : List Env) (s : Shared) (H : Hp) (args : Args) (us : List Value) (vs : List V) (Q : VK) (E : XK), Rm k A →
    Env0 P w K mg base A out s H → BindsTo s fd args (ps.zip us) → Vals vs us → sp vs H Q E → codeAny (model P w) A (.call (.ref f) args) (CR CX out P w H s Q E) s

section
variable {P : Program} {w : World} {K : PySem.W.Frag} {mg : Str → Option Value} {base : Heap} {CX : CXT} {k : Nat} {f : Addr} {fd : FuncData} {ps : List Str} {sp : Sp}
theorem FnG.mono {j : Nat} (F : FnG P w K mg base CX j f fd ps sp) (h : j ≤ k) : FnG P w K mg base CX k f fd ps sp :=
  ⟨F.len, fun A o s H a us vs Q E r => F.run A o s H a us vs Q E (r.mono h)⟩
theorem FnG.imp {sp' : Sp} (F : FnG P w K mg base CX k f fd ps sp) (h : ∀ vs H Q E, sp' vs H Q E → sp vs H Q E) : FnG P w K mg base CX k f fd ps sp' :=
  ⟨fun vs H Q E q => F.len vs H Q E (h _ _ _ _ q), fun A o s H a us vs Q E r e b v q => F.run A o s H a us vs Q E r e b v (h _ _ _ _ q)⟩

/-- the body, for any wish about exceptions -/
theorem bodyG {x qual : Str} {st : Stmt} {N : List Str} (F : Fun K x qual st f fd) (S : FnScope N ps (defScope st)) (len : ∀ vs H Q E, sp vs H Q E → vs.length = ps.length)
    (hb : ∀ (cdv : Value) (A : Around) (out : List Env) (s : Shared) (H : Hp) (vs : List V) (Q : VK) (E : XK),
      Rm k (A.deeper (envOfC qual (defScope st) s.heap.objs.size f cdv)) → sp vs H Q E →
      ∃ t, PSs (cxOf CX P w K mg base N qual (defScope st) f cdv A out s H E) (defBody st) t ∧ t { nx := fun _ H' => Q .non H', rt := Q } (start N vs) H) :
    FnG P w K mg base CX (k + 1) f fd ps sp := by
  obtain ⟨oc, od, kV, doc, pm, an, cdv, ct, osl, rfl, lk, hcd⟩ := F.ex
  refine ⟨len, ?_⟩
  intro A out s H args us vs Q E room e0 hbd rv hsp
  have hlen := len _ _ _ _ hsp
  have inK : K.In s.heap := e0.mod.kin.keeps fun b o e => (e0.bs b o e).1
  have noL : s.heap.NoLimit := e0.mod.nolimit.keeps fun b o e => (e0.bs b o e).1
  have kinds : ∀ y ∈ ps.zip us, (defScope st).names.lookup y.1 = some .local ∨
      ((defScope st).names.lookup y.1 = some .cell ∧ ((cellsFrom (s.heap.objs.size + 1) (defScope st).names []).lookup y.1).isSome = true) := by
    intro ⟨n, v⟩ hy
    rcases S.par n (List.of_mem_zip hy).1 with q | q
    · left
      exact q
    · right
      exact ⟨q, PySem.W.cellsFrom_some _ _ _ (.inl q)⟩
  refine codeAny_call_function room.rm.depth (inK _ _ lk) rfl S.co S.gen rfl (PySem.W.codeRec_of inK hcd) (hbd _ _ _ _ ?_)
  refine wpAny_newFunctionEnv_cells S.kind kinds ?_
  intro env henv s1 x
  subst henv
  refine ⟨noL.keeps x.toInCall.keep, codeAny_func ?_⟩
  obtain ⟨t, ht, hq⟩ := hb cdv A out s H vs Q E (room.deep _) hsp
  have J0 := inv_start (CX := CX) (E := E) (f := f) (cd := cdv) S room.rm.hd e0 hlen rv x
  refine wpAny_mono (ht.run [] s1 (start N vs) H _ J0 hq) ?_ (fun _ _ hs => hs)
  intro fl s' hs
  cases fl with
  | next =>
    obtain ⟨σ', H', J, q⟩ := hs
    exact ⟨V.non, H', J.os, J.bare, J.base, J.hok, rfl, q⟩
  | ret u =>
    obtain ⟨v, σ', H', J, rr, q⟩ := hs
    exact ⟨v, H', J.os, J.bare, J.base, J.hok, rr, q⟩
  | cont =>
    obtain ⟨_, _, _, q⟩ := hs
    exact q.elim
  | brk =>
    obtain ⟨_, _, _, q⟩ := hs
    exact q.elim
/-- a def that lets no exception out -/
theorem okG {x qual : Str} {st : Stmt} {N : List Str} (F : Fun K x qual st f fd) (S : FnScope N ps (defScope st)) (len : ∀ vs H Q E, sp vs H Q E → vs.length = ps.length)
    (hb : ∀ (cdv : Value) (A : Around) (out : List Env) (s : Shared) (H : Hp) (vs : List V) (Q : VK) (E : XK),
      Rm k (A.deeper (envOfC qual (defScope st) s.heap.objs.size f cdv)) → sp vs H Q E →
      ∃ t, PSs (cxOf CX0 P w K mg base N qual (defScope st) f cdv A out s H E).nox (defBody st) t ∧ t { nx := fun _ H' => Q .non H', rt := Q } (start N vs) H) :
    FnG P w K mg base CX0 (k + 1) f fd ps sp :=
  bodyG F S len fun cdv A out s H vs Q E r q =>
    let ⟨t, h, z⟩ := hb cdv A out s H vs Q E r q
    ⟨t, h.nox, z⟩
end

/-! ### calls of such defs -/
section
variable {X : Cx} {CX : CXT} {k : Nat} {f : Addr} {fd : FuncData} {ps ks : List Str} {sp : Sp} {dvs : List V} {ds : List Value} {E : XK} {x : Str} {p pos : Pos} {e : Expr} {es : List Expr} {t tk : TA} {kws : List Keyword}
theorem endG {pins : List (Addr × Obj)} {σ : L2.St} {H : Hp} {s : Shared} {Q : VK} (I : Inv X pins σ H s) (hx : Passes CX X E) (r : Result) (s' : Shared) (h : CR CX X.stack X.prog X.w H s Q E r s') :
    (match r with | .ok (.ret u) => EP X pins σ Q u s' | .ok _ => False | .error e => X.xe e s') := by
  cases r with
  | error e => exact hx pins σ H s e s' I h
  | ok fl =>
    cases fl with
    | ret u => exact I.after h
    | _ => exact h
theorem runG {pins : List (Addr × Obj)} {σ : L2.St} {H : Hp} {s : Shared} {Q : VK} {us : List Value} {vs : List V} (F : FnG X.prog X.w X.K X.mg X.base CX k f fd ps sp) (hr : Rm k X.A) (hb : Binds X.K fd ps ds) (hd : Vals dvs ds)
    (hx : Passes CX X E) (I : Inv X pins σ H s) (r : Vals vs us) (h : sp (vs ++ dvs) H Q E) : wpAny (model X.prog X.w) X.A (call (.ref f) us) (EP X pins σ Q) X.xe s := by
  have rv := r.append hd
  have hl : (us ++ ds).length = ps.length := rv.length.symm.trans (F.len _ _ _ _ h)
  refine wpAny_call (codeAny_mono (F.run X.A X.stack s H ⟨us, []⟩ (us ++ ds) (vs ++ dvs) Q E hr I.env0 (hb s us I.kIn hl) rv h) fun r s' hq => ?_)
  have z := endG I hx r s' hq
  cases r with
  | error e => exact z
  | ok fl =>
    cases fl with
    | ret u => exact z
    | _ => exact z.elim
theorem callG (F : FnG X.prog X.w X.K X.mg X.base CX k f fd ps sp) (hr : Rm k X.A) (hg : Gl X x) (hm : X.mg x = some (.ref f)) (hk : PySem.W.keepIn X.K (.ref f) = true) (hb : Binds X.K fd ps ds) (hd : Vals dvs ds) (hx : Passes CX X E)
    (ha : PA X (e :: es) t) (hdb : (x == ("__debug__" : Str)) = false := by decide) (he : starEach (e :: es) X.env = (false, eval e X.env) :: starEach es X.env := by rfl)
    (hpl : (backTo pos (starEach es X.env)).any (·.1) = false := by rfl) : PE X (.Call (.Name x p) (e :: es) [] pos) (tCall sp dvs E t) := by
  refine ⟨fun pins s σ H Q I h => wpAny_Call_Name_kw (ld_glob I hg hm ?_ hdb)⟩
  refine PySem.W.callWith_K (h₀ := X.base) I.ok.mod.kin hk (thn (ha.run pos pins s σ H _ I h) ?_) he hpl
  intro us s1 ⟨vs, H1, I1, r, q⟩
  exact ⟨I1.kIn, runG F hr hb hd hx I1 r q⟩
theorem runGK {pins : List (Addr × Obj)} {σ : L2.St} {H : Hp} {s : Shared} {Q : VK} {us ws : List Value} {vs zs : List V} {g : List Value → List Value → List Value} {gV : List V → List V → List V}
    (F : FnG X.prog X.w X.K X.mg X.base CX k f fd ps sp) (hr : Rm k X.A) (hb : KBinds X.K fd ps ks g gV) (hx : Passes CX X E)
    (I : Inv X pins σ H s) (r : Vals vs us) (rz : Vals zs ws) (h : sp (gV vs zs) H Q E) : wpAny (model X.prog X.w) X.A (call (.ref f) us (ks.zip ws)) (EP X pins σ Q) X.xe s := by
  have rv := hb.rel r rz
  have hl : (g us ws).length = ps.length := rv.length.symm.trans (F.len _ _ _ _ h)
  refine wpAny_call (codeAny_mono (F.run X.A X.stack s H ⟨us, ks.zip ws⟩ (g us ws) (gV vs zs) Q E hr I.env0 (hb.to s us ws I.kIn hl) rv h) fun r s' hq => ?_)
  have z := endG I hx r s' hq
  cases r with
  | error e => exact z
  | ok fl =>
    cases fl with
    | ret u => exact z
    | _ => exact z.elim
end

/-! ### the end of a law -/
/-- the law's def, at the heap behind the top -/
theorem lawG {P : Program} {w : World} {K : PySem.W.Frag} {mg mb : Str → Option Value} {CX : CXT} {k : Nat} {fa a : Addr} {fd : FuncData} {x : Str} {sp : Sp} {s₁ : Shared} {vs : List Value} {ns : List Int}
    (inK : K.In s₁.heap) (hns : s₁.heap.Ns mainGlobals mg) (hb : s₁.heap.Ns builtinsNs mb) (hbb : ∀ x : Str, x ≠ "__name__" → mb x = bootBuiltins x) (hlim : s₁.heap.NoLimit) (hg : s₁.gens = #[])
    (ha : s₁.heap.get? a = some { cls := .type "list", data := .seq vs.toArray }) (hi : IntsAre vs ns) (hl : ns.length ≤ sizeLine) (hr : Rm k callerA)
    (F : ∀ base : Heap, K.In base → base.Ns mainGlobals mg → FnG P w K mg base CX k fa fd [x] sp) (hbind : ∀ (s : Shared) (u : Value), BindsTo s fd ⟨[u], []⟩ [(x, u)])
    (hsp : ∀ H : Hp, Only H → SqL K H a (ns.map V.int) → sp [.ref a] H (fun v _ => v = .bl true) fun _ _ _ => False)
    (hCX : ∀ H e s', CX [] H s₁ (fun _ _ _ => False) e s' → False) :
    codeAny (model P w) callerA (.call (.ref fa) ⟨[.ref a], []⟩) (fun r s' => r = .ok (.ret (.bool true)) ∧ OldK s₁.heap s'.heap ∧ s'.os = s₁.os ∧ AllBare s'.gens) s₁ := by
  have rv := vals_ints hi
  have go : ∀ H : Hp, Only H → SqL K H a (ns.map V.int) → HOk P w H s₁.heap → (∀ b, H b ≠ none → b = a) → (H a ≠ none → K.lookup a = none) →
      codeAny (model P w) callerA (.call (.ref fa) ⟨[.ref a], []⟩) (fun r s' => r = .ok (.ret (.bool true)) ∧ OldK s₁.heap s'.heap ∧ s'.os = s₁.os ∧ AllBare s'.gens) s₁ := by
    intro H hO hS hok only hK
    have nsd : ∀ {b : Addr} {o : Obj} {es : Array DictEntry} {ep : Nat}, s₁.heap.get? b = some o → o.data = .dict es ep → H b = none := by
      intro b o es ep e d
      cases q : H b with
      | none => rfl
      | some u =>
        obtain rfl : b = a := only b (by simp [q])
        rw [ha] at e
        cases e
        exact nomatch (show Data.seq vs.toArray _ = Data.dict es ep from d)
    have nsH : ∀ {b : Addr} {m : Str → Option Value}, s₁.heap.Ns b m → (hidT s₁.heap H).Ns b m := by
      intro b m ⟨o, es, ep, e, d, r⟩
      exact ⟨o, es, ep, hidT_get e (nsd e d), d, r⟩
    have inH : K.In (hidT s₁.heap H) := by
      intro b o e
      refine hidT_get (inK b o e) ?_
      cases q : H b with
      | none => rfl
      | some u =>
        obtain rfl : b = a := only b (by simp [q])
        rw [hK (by simp [q])] at e
        cases e
    have md : Mod K mg (hidT s₁.heap H) := ⟨inH, nsH hns, ⟨mb, nsH hb, hbb⟩, let ⟨mc, h1, h2⟩ := hlim; ⟨mc, nsH h1, h2⟩⟩
    have e0 : Env0 P w K mg (hidT s₁.heap H) callerA [] s₁ H :=
      ⟨rfl, md, fun b o e => of_hidT e, Nat.le_of_eq (hidT_size _ _), trivial, fun b hb => (List.not_mem_nil hb).elim, hok, .of_eq hg⟩
    refine codeAny_mono ((F _ inH (nsH hns)).run callerA [] s₁ H ⟨[.ref a], []⟩ [.ref a] [.ref a] _ _ hr e0 (hbind s₁ (.ref a)) (.cons rfl .nil) (hsp H hO hS)) ?_
    intro r s' h
    cases r with
    | error e => exact (hCX H e s' h).elim
    | ok fl =>
      cases fl with
      | ret u =>
        obtain ⟨v, H', os, bare, un, hok', r', q⟩ := h
        obtain rfl : v = .bl true := q
        obtain rfl : u = Value.bool true := r'
        refine ⟨rfl, OldK.of_keep ?_, os, bare⟩
        intro b o e
        cases q : H b with
        | none => exact un.keep b o e q (fun z => (List.not_mem_nil z).elim) (fun z => (List.not_mem_nil z).elim)
        | some u =>
          rcases hO b with z | ⟨ob, xs, z⟩
          · rw [q] at z
            cases z
          · obtain ⟨e1, _⟩ := hok b _ z
            obtain ⟨e2, _⟩ := hok' b _ (un.frzs b ob _ z)
            rw [e] at e1
            cases e1
            exact e2
      | _ => exact h.elim
  cases hk : K.lookup a with
  | some o =>
    have e := inK a o hk
    rw [ha] at e
    cases e
    refine go (fun _ => none) (fun _ => .inl rfl) (.inr ⟨_, vs.toArray, _, hk, rfl, rfl, rfl, ?_, by simpa using rv⟩) (fun b u z => nomatch z) (fun b z => (z rfl).elim) fun z => (z rfl).elim
    rw [List.size_toArray, hi.length]
    exact hl
  | none =>
    refine go (fun b => if b = a then some (.frz { cls := .type "list", data := .seq vs.toArray } (.lst (ns.map V.int))) else none) ?_ (.inl (.inr ⟨{ cls := .type "list", data := .seq vs.toArray }, if_pos rfl⟩)) ?_ ?_ fun _ => hk
    · intro b
      by_cases c : b = a
      · exact .inr ⟨_, _, if_pos c⟩
      · exact .inl (if_neg c)
    · intro b u z
      dsimp only at z
      by_cases c : b = a
      · rw [if_pos c] at z
        cases z
        subst c
        refine ⟨ha, ?_, vs, _, rv, ha⟩
        rw [List.length_map]
        exact hl
      · rw [if_neg c] at z
        cases z
    · intro b z
      by_cases c : b = a
      · exact c
      · exact (z (if_neg c)).elim

theorem walkG {l : PySem.W.OpenLaw} {n k : Nat} {q : Program} {loose : List Str} {XP : (Str → Option Value) → Heap → Prop} {YP : World → Heap → Prop} {d : DefRec} {K : Params → PySem.W.Frag} {CX : World → CXT} {sp : World → Sp} {x : Str}
    (hn : l.most = some n) (hn2 : n ≤ sizeLine) (hdf : d.params.defaults = []) (hr : Rm k callerA)
    (hY : ∀ (w : World) (h : Heap), YP w h → (K w.params).In h)
    (F : ∀ (w : World) (mg : Str → Option Value) (fa : Addr) (h : Heap), (K w.params).In h → h.Ns mainGlobals mg → mg d.name = some (.ref fa) →
      ∃ fd : FuncData, (∀ (s : Shared) (u : Value), BindsTo s fd ⟨[u], []⟩ [(x, u)]) ∧
        ∀ base : Heap, (K w.params).In base → base.Ns mainGlobals mg → FnG l.prog w (K w.params) mg base (CX w) k fa fd [x] (sp w))
    (hsp : ∀ (w : World) (H : Hp) (a : Addr) (ns : List Int), ns.length ≤ n → Only H → SqL (K w.params) H a (ns.map V.int) → sp w [.ref a] H (fun v _ => v = .bl true) fun _ _ _ => False)
    (hCX : ∀ (w : World) (H : Hp) (s : Shared) (e : Value) (s' : Shared), CX w [] H s (fun _ _ _ => False) e s' → False) :
    PySem.W.WalkO q loose XP YP l.row.toRowW d [] (fun f vs => PySem.call f vs) := by
  refine Att.attach_call hn hdf ?_
  intro w s₀ s₁ mg mb fa o pm cd doc a vs ns G Y ho hd hcd hmg hobj hints hlen hg
  have inK := hY w _ Y
  obtain ⟨fd, hb, hF⟩ := F w mg fa _ inK G.T.g hmg
  exact lawG inK G.T.g G.T.b G.T.builtins G.T.nolimit hg hobj hints (Nat.le_trans hlen hn2) hr hF hb (fun H hO hS => hsp w H a ns hlen hO hS) fun H e s' => hCX w H s₁ e s'

/-! ### repr of data -/
def rRepr (K : PySem.W.Frag) : List V → Hp → VK → Prop := fun xs H Q => ∃ (a : Addr) (d : PyData), xs = [.ref a] ∧ Dp K H (.ref a) d ∧ d.showable = true ∧ d.hasDict = false ∧ d.depth ≤ 60 ∧ d.shown.length ≤ sizeLine ∧ Q (.str d.shown) H
theorem call_repr {X : Cx} (hg : X.A.guards = some []) (hu : X.A.units + 64 < cLine) : CallR X (.builtin "repr") (rRepr X.K) := by
  intro pins s σ H xs us Q I r h
  obtain ⟨a, d, rfl, hd, hs, hn, hp, hz, q⟩ := h
  obtain ⟨u, rfl, ru⟩ := vals1 r
  cases (show u = Value.ref a from ru)
  obtain ⟨as, rd⟩ := Dp.reads I d (.ref a) (.ref a) hd rfl
  refine repr_of_reads' rd hs (fun z => by rw [hn] at z; cases z) hg (by omega) (fun _ _ e => e) (fun h' u tk hk => ?_) hz
  exact ⟨.str d.shown, H, I.kept hk, ⟨u, rfl⟩, q⟩
end Bk
namespace Bk
open PySem PySem.Spec PyProof.Rows L2

/-! ### enumerate(list, start=k) -/
theorem callWith_clsKw {M : Model} {A : Around} {E : Value → Shared → Prop} {s : Shared} {env : Env} {pos : Pos} {T : String} {e : Expr} {rest : List Expr} {kws : List Keyword} {Q : Value → Shared → Prop}
    (h : wpAny M A (spliced (backTo pos (starEach (e :: rest) env))) (fun vs s₁ => wpAny M A (evalAll ((backToKw pos (keywordEach kws env)).map (·.2)))
      (fun ks s₂ => wpAny M A (call (.type T) vs (((backToKw pos (keywordEach kws env)).filterMap (·.1)).zip ks)) Q E s₂) E s₁) E s)
    (hall : (backToKw pos (keywordEach kws env)).all (·.1.isSome) = true)
    (hplain : (backTo pos (starEach (e :: rest) env)).any (·.1) = false) (hkw : (backToKw pos (keywordEach kws env)).any (·.1.isNone) = false)
    (he : backTo pos (starEach (e :: rest) env) = (false, eval e env) :: backTo pos (starEach rest env)) :
    wpAny M A (callWith pos (.type T) [] (backTo pos (starEach (e :: rest) env)) (backToKw pos (keywordEach kws env))) Q E s := by
  have h2 : wpAny M A (evalArgs (.type T) true (backTo pos (starEach (e :: rest) env)) (backToKw pos (keywordEach kws env))) (fun a s₁ => wpAny M A (call (.type T) ([] ++ a.pos) a.kw) Q E s₁) E s := by
    rw [he] at h ⊢
    exact PyProof.Rows.evalArgs_kwB hall h
  unfold callWith
  refine wpAny_bind (wpAny_holding (wpAny_mono h2 (fun a s₁ h₁ => wpAny_bind (wpAny_standAt ?_)) fun _ _ x => x))
  simp only [hplain, hkw, Bool.or_false]
  refine wpAny_bind (wpAny_pure ?_)
  exact wpAny_bind (wpAny_mono h₁ (fun r s₂ hr => wpAny_bind (wpAny_holding (wpAny_point (wpAny_pure hr)))) fun _ _ x => x)

/-- the list at a, each item in a new pair, counted from c -/
def Itn (K : PySem.W.Frag) (a : Addr) (c : Int) : It :=
  ⟨fun i H => ∃ (xs : List V) (x : V), SqL K H a xs ∧ xs[i]? = some x,
   fun i H v H' => ∃ T x, v = .ref T ∧ H T = none ∧ H' = upd H T (.tup [.int (c + (i : Nat)), x]) ∧ ∀ xs, SqL K H a xs → xs[i]? = some x,
   fun i H => ∃ xs : List V, SqL K H a xs ∧ i = xs.length⟩

theorem turn_enumC {P : Program} {w : World} {K : PySem.W.Frag} {elts : List Expr} {kk : Nat} {tpos : Pos} (a e it : Addr) (c : Int) :
    Turn P w K (.Tuple elts kk tpos) (Itn K a c) [e, it] e (fun i h => (∃ old, IsEnum h e it (c + ((i : Nat) : Int)) old) ∧ h.IsListIter it a i ∧ e ≠ it) where
  mem := List.mem_cons_self
  obj := by
    intro i h st b hb
    obtain ⟨⟨old, he⟩, ⟨o, ho, hc, hd⟩, _⟩ := st
    rcases (show b = e ∨ b = it by simpa using hb) with z | z
    · rw [z]
      exact ⟨_, he, fun v q => nomatch q⟩
    · rw [z]
      exact ⟨o, ho, fun v q => by rw [hd] at q; cases q⟩
  keep := by
    intro i h h' st k
    obtain ⟨⟨old, he⟩, hi, hne⟩ := st
    exact ⟨⟨old, k e (by simp) _ he⟩, hi.at fun o q => k it (by simp) o q, hne⟩
  item := by
    intro X hP hw hK hc i pins s σ H E I hf st hg
    subst hP hw hK
    obtain ⟨⟨old, he⟩, hit, hne⟩ := st
    obtain ⟨xs, x, hq, hx⟩ := hg
    obtain ⟨its, rv, p, hz⟩ := I.list hq
    obtain ⟨u, hu, ru⟩ := rv.get hx
    have hel : e < s.heap.objs.size := Heap.lt_size he
    have hil : it < s.heap.objs.size := by
      obtain ⟨_, q, _⟩ := hit
      exact Heap.lt_size q
    have hai : a ≠ it := by
      intro z
      obtain ⟨o1, q1, c1, d1⟩ := hit
      obtain ⟨o2, n2, q2, c2, _⟩ := p
      rw [z, q1] at q2
      cases q2
      rw [c1] at c2
      exact absurd c2 (by decide)
    have hae : e ≠ a := by
      intro z
      obtain ⟨o2, n2, q2, c2, _⟩ := p
      have q3 : s.heap.get? a = _ := z ▸ he
      rw [q3] at q2
      cases q2
      exact absurd (show Value.type "enumerate" = Value.type "list" from c2) (by decide)
    have hi : i < its.toArray.size := by
      have := (List.getElem?_eq_some_iff.mp hu).1
      simpa using this
    refine wpAny_pyNext_enum_itemC (Draws.list (by show X.A.handled = none; exact I.ok.hd hc) it a hai its.toArray) he ⟨hit, p.isList⟩ hi hne (by simp [hne, hae]) ?_
    intro y h' tk hy ho st' hT hsz hk
    have ey : y = u := by
      have : its.toArray[i]? = some u := by simpa using hu
      rw [this] at hy
      exact (Option.some.inj hy).symm
    subst ey
    refine ⟨_, rfl, wpAny_letOwnedTupleGo_enum (s := { s with heap := h', toks := tk + 1 }) ho ?_⟩
    intro h'' he' sb
    have hT2 : h''.get? s.heap.objs.size = some { cls := .type "tuple", data := .seq #[.int (c + (i : Nat)) tk, y] } := (sb.2 _ (Nat.ne_of_gt hel)).trans hT
    have new : ObjOk X.prog X.w (upd H s.heap.objs.size (.tup [.int (c + (i : Nat)), x])) h'' s.heap.objs.size (.tup [.int (c + (i : Nat)), x]) :=
      ⟨by show 2 ≤ sizeLine; decide, [.int (c + (i : Nat)) tk, y], .cons ⟨_, rfl⟩ (.cons ru .nil), ⟨_, hT2, rfl, _, rfl⟩⟩
    have I1 : Inv X pins σ (upd H s.heap.objs.size (.tup [.int (c + (i : Nat)), x])) { s with heap := h'', toks := tk + 1 } := by
      refine I.turnedNew (ch := [e, it]) ?_ hf (Nat.le_refl _) new
      intro b ob hb q
      exact (sb.2 b (fun z => hb (by simp [z]))).trans (hk b ob (fun z => hb (by simp [z])) (fun z => hb (by simp [z])) q)
    refine ⟨.ref s.heap.objs.size, _, I1, rfl, ⟨_, x, rfl, I.hok.fresh (Nat.le_refl _), rfl, fun ys hy => ?_⟩, ⟨⟨y, ?_⟩, st'.1.at fun o q => (sb.2 it (Ne.symm hne)).trans q, hne⟩, fun b hb => ?_⟩
    · rw [I.list_inj hy hq]
      exact hx
    · have e1 : c + ((i + 1 : Nat) : Int) = c + (i : Int) + 1 := by omega
      rw [e1]
      exact he'
    · have hb' : b < s.heap.objs.size := by
        rcases (show b = e ∨ b = it by simpa using hb) with z | z
        · exact z ▸ hel
        · exact z ▸ hil
      rw [upd_ne (Nat.ne_of_lt hb')]
      exact (hf b hb).1
  done := by
    intro X hP hw hK hc i pins s σ H E I hf st hg
    subst hP hw hK
    obtain ⟨⟨old, he⟩, hit, hne⟩ := st
    obtain ⟨xs, hq, hx⟩ := hg
    obtain ⟨its, rv, p, hz⟩ := I.list hq
    obtain ⟨f0, f1, f2, f3, f4, f5⟩ := hf it (by simp)
    have hl := rv.length
    have hai : a ≠ it := by
      intro z
      obtain ⟨o1, q1, c1, d1⟩ := hit
      obtain ⟨o2, n2, q2, c2, _⟩ := p
      rw [z, q1] at q2
      cases q2
      rw [c1] at c2
      exact absurd c2 (by decide)
    have hn : i = its.toArray.size := by
      simp
      omega
    have st : s.heap.IsListIter it a its.toArray.size ∧ s.heap.IsList a its.toArray := ⟨hn ▸ hit, p.isList⟩
    refine wpAny_pyNext_enum_endD (Draws.list (by show X.A.handled = none; exact I.ok.hd hc) it a hai its.toArray) he st ?_
    intro h' eb
    exact ⟨rfl, I.turned (t' := s.toks) (fun b o hb q => eb b o hb q) f0 f1 f3 f4 f5⟩
  self := fun A i s Q E st h => by
    obtain ⟨⟨_, he⟩, _⟩ := st
    exact wpAny_pyIter_enum he h

def iEnumC (K : PySem.W.Frag) (ta : TA) (c : Int) : TI := fun σ H R => ta σ H fun vs H1 => ∃ a xs, vs = [.ref a] ∧ SqL K H1 a xs ∧ R (Itn K a c) H1
theorem pi_enumC {X : Cx} {e : Expr} {ta : TA} {p pos tpos kpos cpos : Pos} {elts : List Expr} {kk j : Nat} {c : Int} (hg : Gl X "enumerate") (hm : X.mg "enumerate" = none) (ha : PA X [e] ta)
    (hs : starEach [e] X.env = [(false, eval e X.env)] := by rfl) (h0 : -(2 ^ 63) ≤ c := by decide) (h1 : c < 2 ^ 63 := by decide)
    (hall : (backToKw pos (keywordEach [⟨some "start", .Constant (.int c) j cpos, kpos⟩] X.env)).all (·.1.isSome) = true := by rfl)
    (hks : (backToKw pos (keywordEach [⟨some "start", .Constant (.int c) j cpos, kpos⟩] X.env)).filterMap (·.1) = [Str.ofString "start"] := by rfl)
    (hnone : (backToKw pos (keywordEach [⟨some "start", .Constant (.int c) j cpos, kpos⟩] X.env)).any (·.1.isNone) = false := by rfl)
    (hpl : (backTo pos (starEach [e] X.env)).any (·.1) = false := by rfl) :
    PI X (.Tuple elts kk tpos) (.Call (.Name "enumerate" p) [e] [⟨some "start", .Constant (.int c) j cpos, kpos⟩] pos) (iEnumC X.K ta c) := by
  refine ⟨fun pins s σ H R I h => ?_⟩
  refine wpAny_Call_Name_kw (ld_blt I hg hm boot_enumerate ?_)
  refine callWith_clsKw (thn (ha.run pos pins s σ H _ I h) fun us s1 ⟨vs, H1, I1, r1, q1⟩ => thn ((pk_cons pe_int pk_nil).run pos pins s1 σ H1 _ I1 (show tCons (tC (.int c)) tNil σ H1 (fun zs H2 => zs = [.int c] ∧ H2 = H1) from ⟨rfl, rfl⟩)) fun ws s2 ⟨zs, H2, I2, r2, e2, e3⟩ => ?_) hall hpl hnone (by rw [hs]; rfl)
  subst e2 e3
  obtain ⟨a, xs, ex, hq, q⟩ := q1
  subst ex
  rw [hks]
  obtain ⟨u, rfl, ru⟩ := vals1 r1
  obtain ⟨v, rfl, t, rfl⟩ := vals1 r2
  cases (show u = Value.ref a from ru)
  obtain ⟨its, rv, p', hz⟩ := I2.list hq
  refine enum_begins_start (begins_list a its.toArray) p'.isList h0 h1 fun h' he hit hsz hk => wpAny_pyIter_enum he ?_
  have I3 : Inv X pins σ H2 { s2 with heap := h' } := I2.kept (t' := s2.toks) hk
  refine ⟨s2.heap.objs.size + 1, [s2.heap.objs.size + 1, s2.heap.objs.size], _, _, H2, rfl, I3, turn_enumC a (s2.heap.objs.size + 1) s2.heap.objs.size c, ⟨⟨.none, ?_⟩, ⟨_, hit, rfl, rfl⟩, Nat.succ_ne_self _⟩, fun b hb => ?_, q⟩
  · rw [show c + ((0 : Nat) : Int) = c by omega]
    exact he
  · have hle : s2.heap.objs.size ≤ b := by
      rcases (show b = s2.heap.objs.size + 1 ∨ b = s2.heap.objs.size by simpa using hb) with z | z
      · rw [z]
        exact Nat.le_succ _
      · rw [z]
        exact Nat.le_refl _
    exact I2.fpOk hle (I2.hok.fresh hle)

/-! ### powers of great numbers -/
def CPowW (i j : Int) : Prop := 0 ≤ j ∧ j ≤ 64 ∧ i.natAbs < 2 ^ 1000
theorem op_powW {X : Cx} : OpR X (binaryOp .Pow) (rI CPowW fun i j => .int (i ^ j.toNat)) := opI fun i j _ _ _ _ _ hc q => by
  obtain ⟨h0, h1, h2⟩ := hc
  refine PyProof.Rows.pow_int h0 ?_ q
  have hb : Builtin.Int.intBits i ≤ 1000 := by
    unfold Builtin.Int.intBits
    split
    · omega
    · rename_i hne
      have : i.natAbs ≠ 0 := by
        intro z
        apply hne
        simp only [beq_iff_eq]
        omega
      have := (Nat.log2_lt this).mpr h2
      omega
  have : (Builtin.Int.intBits i : Int) * j ≤ 1000 * 64 := Int.mul_le_mul (by omega) h1 h0 (by omega)
  omega
end Bk
namespace Bk
open PySem PySem.Spec PyProof.Rows L2

/-! ### heaps that grow, but for one object -/
def But (a : Addr) (H H' : Hp) : Prop := ∀ b o, b ≠ a → H b = some o → H' b = some o
theorem But.refl (a : Addr) (H : Hp) : But a H H := fun _ _ _ h => h
theorem But.trans {a : Addr} {H H1 H2 : Hp} (x : But a H H1) (y : But a H1 H2) : But a H H2 := fun b o n h => y b o n (x b o n h)
theorem But.same {a : Addr} {H H1 : Hp} (x : Same H H1) : But a H H1 := fun b o _ h => x b o h
theorem But.new {a p : Addr} {H : Hp} {o : HO} (n : H p = none) : But a H (upd H p o) := fun b u _ h => by
  rw [upd_ne (ne_of_none h n)]
  exact h
theorem But.at {a : Addr} {H : Hp} {o : HO} : But a H (upd H a o) := fun b u n h => by
  rw [upd_ne n]
  exact h
/-- an object that was not there at H may change -/
theorem But.own {a p : Addr} {H H1 : Hp} {o : HO} (x : But a H H1) (n : H p = none) : But a H (upd H1 p o) := fun b u m h => by
  rw [upd_ne (ne_of_none h n)]
  exact x b u m h
theorem Same.new {p : Addr} {H : Hp} {o : HO} (n : H p = none) : Same H (upd H p o) := fun b u h => by
  rw [upd_ne (ne_of_none h n)]
  exact h
theorem Same.own {p : Addr} {H H1 : Hp} {o : HO} (x : Same H H1) (n : H p = none) : Same H (upd H1 p o) := fun b u h => by
  rw [upd_ne (ne_of_none h n)]
  exact x b u h
theorem Same.but {a : Addr} {H H1 H2 : Hp} (x : Same H H1) (n : H a = none) (y : But a H1 H2) : Same H H2 := fun b o h => y b o (ne_of_none h n) (x b o h)
theorem But.free {a b : Addr} {H H' : Hp} (x : But a H H') (n : b ≠ a) (h : H' b = none) : H b = none := by
  cases q : H b with
  | none => rfl
  | some o =>
    rw [x b o n q] at h
    cases h
theorem But.seq {K : PySem.W.Frag} {a b : Addr} {H H' : Hp} {xs : List V} (x : But a H H') (n : b ≠ a) (h : SqL K H b xs) : SqL K H' b xs := by
  rcases h with (h | ⟨o, h⟩) | h
  · exact .inl (.inl (x _ _ n h))
  · exact .inl (.inr ⟨o, x _ _ n h⟩)
  · exact .inr h
theorem But.seqT {K : PySem.W.Frag} {a b : Addr} {H H' : Hp} {xs : List V} (x : But a H H') (n : b ≠ a) (h : SqT K H b xs) : SqT K H' b xs := by
  rcases h with (h | ⟨o, h⟩) | h
  · exact .inl (.inl (x _ _ n h))
  · exact .inl (.inr ⟨o, x _ _ n h⟩)
  · exact .inr h
theorem Same.seqT {K : PySem.W.Frag} {b : Addr} {H H' : Hp} {xs : List V} (x : Same H H') (h : SqT K H b xs) : SqT K H' b xs := by
  rcases h with (h | ⟨o, h⟩) | h
  · exact .inl (.inl (x _ _ h))
  · exact .inl (.inr ⟨o, x _ _ h⟩)
  · exact .inr h

/-! ### lists of ints -/
abbrev vi (ns : List Int) : List V := ns.map V.int
abbrev di (ns : List Int) : List PyData := ns.map PyData.int
theorem vi_get {ns : List Int} {i : Nat} {x : Int} (h : ns[i]? = some x) : (vi ns)[i]? = some (.int x) := by
  rw [List.getElem?_map, h]
  rfl
theorem vi_at {ns : List Int} {i : Nat} (h : i < ns.length) : (vi ns)[i]? = some (.int ns[i]) := vi_get (List.getElem?_eq_getElem h)
theorem dpAll_ints (K : PySem.W.Frag) (H : Hp) : ∀ ns : List Int, DpAll K H (vi ns) (di ns)
  | [] => .nil
  | n :: r => .cons (.int n) (dpAll_ints K H r)
theorem dp_lst {K : PySem.W.Frag} {H : Hp} {a : Addr} {ns : List Int} (h : SqL K H a (vi ns)) : Dp K H (.ref a) (.list (di ns)) := .lst h (dpAll_ints K H ns)
theorem dp_tup {K : PySem.W.Frag} {H : Hp} {a : Addr} {ns : List Int} (h : SqT K H a (vi ns)) : Dp K H (.ref a) (.tuple (di ns)) := .tup h (dpAll_ints K H ns)
theorem canLay_ints : ∀ ns : List Int, PyData.canLayAll0 (di ns) = true
  | [] => rfl
  | n :: r => by simp [PyData.canLayAll0, PyData.canLay0, canLay_ints r]
theorem depthAll_ints : ∀ ns : List Int, PyData.depthAll (di ns) = 0
  | [] => rfl
  | n :: r => by simp [PyData.depthAll, PyData.depth, depthAll_ints r]
theorem shaped_l (ns : List Int) : SeqAt.shaped (.list (di ns)) = true := by
  simp [SeqAt.shaped, PyData.canLay0, canLay_ints, PyData.depth, depthAll_ints]
theorem shaped_t (ns : List Int) : SeqAt.shaped (.tuple (di ns)) = true := by
  simp [SeqAt.shaped, PyData.canLay0, canLay_ints, PyData.depth, depthAll_ints]
theorem eqvAll_ints : ∀ ns ms : List Int, PyData.eqvAll (di ns) (di ms) = decide (ns = ms)
  | [], [] => rfl
  | [], m :: r => by simp [PyData.eqvAll]
  | n :: r, [] => by simp [PyData.eqvAll]
  | n :: r, m :: q => by
    have ih := eqvAll_ints r q
    simp only [List.map_cons, PyData.eqvAll, PyData.eqv, ih]
    by_cases h1 : n = m
    · by_cases h2 : r = q
      · simp [h1, h2]
      · simp [h1, h2]
    · simp [h1]
theorem eqv_l (ns ms : List Int) : PyData.eqv (.list (di ns)) (.list (di ms)) = decide (ns = ms) := by
  rw [PyData.eqv]
  exact eqvAll_ints ns ms
theorem eqv_t (ns ms : List Int) : PyData.eqv (.tuple (di ns)) (.tuple (di ms)) = decide (ns = ms) := by
  rw [PyData.eqv]
  exact eqvAll_ints ns ms

/-! ### how long a text of data is -/
def wide (k : Nat) (ns : List Int) : Prop := ∀ n ∈ ns, n.natAbs.log2 < k
theorem wide.mono {j k : Nat} {ns : List Int} (h : wide j ns) (hk : j ≤ k) : wide k ns := fun n m => Nat.lt_of_lt_of_le (h n m) hk
theorem wide_lt {k : Nat} {ns : List Int} (h0 : 0 < k) (h : ∀ n ∈ ns, n.natAbs < 2 ^ k) : wide k ns := fun n m => PySem.Flt.log2_lt_of h0 (h n m)
theorem textFrom_le : ∀ (ts : List Str) (k L : Nat) (acc : Str), (∀ t ∈ ts, t.length ≤ L) → (textFrom k acc ts).length ≤ acc.length + (L + 2) * ts.length
  | [], k, L, acc, h => Nat.le_refl _
  | t :: r, k, L, acc, h => by
    have h1 := h t List.mem_cons_self
    have ih := textFrom_le r (k + 1) L (acc ++ (if k > 0 then ", " else "" : String) ++ t) fun u m => h u (List.mem_cons_of_mem _ m)
    show (textFrom (k + 1) (acc ++ (if k > 0 then ", " else "" : String) ++ t) r).length ≤ _
    refine Nat.le_trans ih ?_
    rw [strLen_append, strLen_append, List.length_cons, Nat.mul_add]
    have e : ((if k > 0 then ", " else "" : String) : Str).length ≤ 2 := by
      split
      · exact Nat.le_refl 2
      · exact Nat.zero_le 2
    omega
theorem listText_le {ts : List Str} {L : Nat} (h : ∀ t ∈ ts, t.length ≤ L) : (listText ts).length ≤ (L + 2) * ts.length + 2 := by
  unfold listText
  rw [strLen_append]
  have := textFrom_le ts 0 L "[" h
  have e1 : (("[" : String) : Str).length = 1 := rfl
  have e2 : (("]" : String) : Str).length = 1 := rfl
  omega
theorem piled_le : ∀ {ts : List Str} {L : Nat}, (∀ t ∈ ts, t.length ≤ L) → piled ts ≤ (L + 2) * ts.length
  | [], L, _ => by simp [piled]
  | t :: r, L, h => by
    have := h t List.mem_cons_self
    have ih := piled_le (ts := r) (L := L) fun u m => h u (List.mem_cons_of_mem _ m)
    rw [piled_cons, List.length_cons, Nat.mul_add]
    omega
theorem tupleText_le {ts : List Str} {L : Nat} (h : ∀ t ∈ ts, t.length ≤ L) : (tupleText ts).length ≤ (L + 2) * ts.length + 3 := by
  unfold tupleText
  rw [strLen_append, strLen_append]
  have e1 : ((("(" : String) : Str)).length = 1 := rfl
  have e3 : (((if ts.length == 1 then ",)" else ")" : String) : Str)).length ≤ 2 := by split <;> decide
  rw [e1]
  by_cases hn : ts = []
  · subst hn
    have : (Str.join ", " ([] : List Str)).length = 0 := rfl
    omega
  · have j := join_length_add ts hn
    have p := piled_le h
    omega
theorem shownAll_ints : ∀ ns : List Int, PyData.shownAll (di ns) = ns.map fun i => (toString i : Str)
  | [] => rfl
  | n :: r => by
    show PyData.shown (.int n) :: PyData.shownAll (di r) = _
    rw [shownAll_ints r, PyData.shown]
    rfl
theorem shown_le {k : Nat} {ns : List Int} (hk : 0 < k) (h : wide k ns) : ∀ t ∈ PyData.shownAll (di ns), t.length ≤ k + 1 := by
  intro t m
  rw [shownAll_ints] at m
  obtain ⟨i, hi, rfl⟩ := List.mem_map.mp m
  rw [PySem.ofString_length]
  exact int_text_length_le hk (h i hi)
theorem showable_ints : ∀ {ns : List Int}, wide 1920 ns → PyData.showableAll (di ns) = true
  | [], _ => rfl
  | n :: r, h => by
    have h1 : n.natAbs.log2 < 1920 := h n List.mem_cons_self
    have h2 := showable_ints (ns := r) fun m hm => h m (List.mem_cons_of_mem _ hm)
    simp [PyData.showableAll, PyData.showable, h1, h2]
theorem noDict_ints : ∀ ns : List Int, PyData.hasDictAll (di ns) = false
  | [] => rfl
  | n :: r => by simp [PyData.hasDictAll, PyData.hasDict, noDict_ints r]
/-- what repr asks of a list, a tuple of ints -/
theorem repr_l {K : PySem.W.Frag} {H : Hp} {a : Addr} {ns : List Int} {Q : VK} (h : SqL K H a (vi ns)) (hw : wide 1900 ns) (hl : ns.length ≤ 4000) (q : Q (.str (PyData.list (di ns)).shown) H) : rRepr K [.ref a] H Q := by
  refine ⟨a, .list (di ns), rfl, dp_lst h, ?_, ?_, ?_, ?_, q⟩
  · simp [PyData.showable, showable_ints (hw.mono (by decide))]
  · simp [PyData.hasDict, noDict_ints]
  · simp [PyData.depth, depthAll_ints]
  · rw [PyData.shown]
    have := listText_le (shown_le (by decide) hw)
    rw [shownAll_ints, List.length_map, ← shownAll_ints] at this
    rw [sizeLine_eq]
    omega
theorem repr_t {K : PySem.W.Frag} {H : Hp} {a : Addr} {ns : List Int} {Q : VK} (h : SqT K H a (vi ns)) (hw : wide 1900 ns) (hl : ns.length ≤ 4000) (q : Q (.str (PyData.tuple (di ns)).shown) H) : rRepr K [.ref a] H Q := by
  refine ⟨a, .tuple (di ns), rfl, dp_tup h, ?_, ?_, ?_, ?_, q⟩
  · simp [PyData.showable, showable_ints (hw.mono (by decide))]
  · simp [PyData.hasDict, noDict_ints]
  · simp [PyData.depth, depthAll_ints]
  · rw [PyData.shown]
    have := tupleText_le (shown_le (by decide) hw)
    rw [shownAll_ints, List.length_map, ← shownAll_ints] at this
    rw [sizeLine_eq]
    omega
end Bk
namespace Bk
open PySem PySem.Spec PyProof.Rows L2 Evl

section
variable {X : Cx} {CX : CXT} {k : Nat} {f : Addr} {fd : FuncData} {ps ks : List Str} {sp : Sp} {E : XK} {x : Str} {p pos : Pos} {tk : TA} {kws : List Keyword}
/-- f(k = v, ..) -/
theorem callGK0 {g : List Value → List Value → List Value} {gV : List V → List V → List V} (F : FnG X.prog X.w X.K X.mg X.base CX k f fd ps sp) (hr : Rm k X.A) (hg : Gl X x) (hm : X.mg x = some (.ref f)) (hk : PySem.W.keepIn X.K (.ref f) = true)
    (hb : KBinds X.K fd ps ks g gV) (hx : Passes CX X E) (hkw : PK X kws tk) (hall : (backToKw pos (keywordEach kws X.env)).all (·.1.isSome) = true := by rfl)
    (hks : (backToKw pos (keywordEach kws X.env)).filterMap (·.1) = ks := by rfl) (hdb : (x == ("__debug__" : Str)) = false := by decide)
    (hpl : ((backTo pos (starEach [] X.env)).any (·.1) || (backToKw pos (keywordEach kws X.env)).any (·.1.isNone)) = false := by rfl) :
    PE X (.Call (.Name x p) [] kws pos) (tCallK sp gV E tNil tk) := by
  refine ⟨fun pins s σ H Q I h => wpAny_Call_Name_kw (ld_glob I hg hm ?_ hdb)⟩
  refine PySem.W.callWith_KW0 (h₀ := X.base) I.ok.mod.kin hk hall (thn (hkw.run pos pins s σ H _ I h) ?_) hpl
  intro ws s2 ⟨zs, H2, I2, rz, q2⟩
  refine ⟨I2.kIn, ?_⟩
  rw [hks]
  exact runGK F hr hb hx I2 .nil rz q2
end

/-- how keywords are put into the parameters' order -/
def gK {α : Type} (na nk : Nat) (idx : List Nat) (us ws : List α) : List α := if us.length = na ∧ ws.length = nk then idx.filterMap (fun i => (us ++ ws)[i]?) else []
theorem vals_pick {xs : List V} {us : List Value} (r : Vals xs us) : ∀ idx : List Nat, Vals (idx.filterMap (fun i => xs[i]?)) (idx.filterMap (fun i => us[i]?))
  | [] => .nil
  | i :: idx => by
    have ih := vals_pick r idx
    cases g : xs[i]? with
    | none =>
      rw [List.filterMap_cons_none (by exact g), List.filterMap_cons_none (by exact r.none_of g)]
      exact ih
    | some x =>
      obtain ⟨u, hu, rx⟩ := r.get g
      rw [List.filterMap_cons_some (by exact g), List.filterMap_cons_some (by exact hu)]
      exact .cons rx ih
theorem gK_rel {na nk : Nat} {idx : List Nat} {vs : List V} {us : List Value} {zs : List V} {ws : List Value} (r : Vals vs us) (rz : Vals zs ws) : Vals (gK na nk idx vs zs) (gK na nk idx us ws) := by
  unfold gK
  rw [r.length, rz.length]
  split
  · exact vals_pick (r.append rz) idx
  · exact .nil
theorem gK_len {α : Type} {na nk n : Nat} {idx : List Nat} {us ws : List α} (h : (gK na nk idx us ws).length = n) (hn : n ≠ 0) : us.length = na ∧ ws.length = nk := by
  unfold gK at h
  split at h
  · assumption
  · exact absurd h.symm hn

/-! ### isinstance of a built-in class -/
theorem isi_ty {K : PySem.W.Frag} {H : Hp} {x : V} {t T : String} {b : Bool} {Q : VK} (ty : TyX K H x (.type t)) (k : kitB t T = some b) (q : Q (.bl b) H) : rIsi K [x, .ty T] H Q :=
  ⟨x, .ty T, .type t, .type T, b, rfl, .ty T, ty, kit_ty k, q⟩
theorem kb_int_int : kitB "int" "int" = some true := by decide +kernel
theorem kb_int_bool : kitB "int" "bool" = some false := by decide +kernel
theorem kb_list_list : kitB "list" "list" = some true := by decide +kernel
theorem kb_tuple_tuple : kitB "tuple" "tuple" = some true := by decide +kernel
theorem bt_int : bootBuiltins "int" = some (.type "int") := by decide +kernel
theorem bt_bool : bootBuiltins "bool" = some (.type "bool") := by decide +kernel
theorem bt_list : bootBuiltins "list" = some (.type "list") := by decide +kernel
theorem bt_tuple : bootBuiltins "tuple" = some (.type "tuple") := by decide +kernel
/-- the type of a list that is read -/
theorem ty_seql {K : PySem.W.Frag} {H : Hp} {a : Addr} {xs : List V} (h : SqL K H a xs) : TyX K H (.ref a) (.type "list") := by
  rcases h with (h | ⟨o, h⟩) | ⟨o, its, n, hk, hc, _⟩
  · exact .base (.lst h)
  · exact .base (.frz h)
  · exact .kList hk hc
theorem ty_seqt {K : PySem.W.Frag} {H : Hp} {a : Addr} {xs : List V} (h : SqT K H a xs) : TyX K H (.ref a) (.type "tuple") := by
  rcases h with (h | ⟨o, h⟩) | ⟨o, its, n, hk, hc, _⟩
  · exact .base (.tup h)
  · exact .fTuple h
  · exact .kTuple hk hc

/-! ### more of what evaluates to what -/
section
variable {K : PySem.W.Frag} {σ : L2.St} {H H' : Hp} {ta tb te : TE} {t u : TT} {x y z v : V}
theorem ev_isi {T t : String} {b : Bool} (h : Ev ta σ H x) (ty : ∀ H1, Ex H H1 → TyX K H1 x (.type t)) (k : kitB t T = some b) : Ev (tCB (rIsi K) (tCons ta (tCons (tC (.ty T)) tNil))) σ H (.bl b) := fun H1 e Q q =>
  h H1 e _ fun H2 e2 => isi_ty (ty H2 (e.trans e2)) k (q H2 e2)
theorem ev_sum {p : Addr} {ns : List Int} (ha : Ev ta σ H (.ref p)) (h : SqL K H p (vi ns)) : Ev (tCB (rSum K) (tCons ta tNil)) σ H (.int ns.sum) := fun H1 e Q q =>
  ha H1 e _ fun H2 e2 => ⟨p, ns, rfl, ex_l (e.trans e2) h, q H2 e2⟩
theorem ev_sumN {ns : List Int} (ha : EvL ta σ H (vi ns)) : Ev (tCB (rSum K) (tCons ta tNil)) σ H (.int ns.sum) := fun H1 e Q q =>
  ha H1 e _ fun p H2 hp e2 h2 => ⟨p, ns, rfl, sq_of h2, q H2 e2⟩
theorem ev_int1 {i : Int} (ha : Ev ta σ H (.int i)) : Ev (tCB (fun xs H Q => (∃ i, xs = [.int i] ∧ Q (.int i) H) ∨ ∃ k, xs = [.bl k] ∧ Q (.int (if k then 1 else 0)) H) (tCons ta tNil)) σ H (.int i) := fun H1 e Q q =>
  ha H1 e _ fun H2 e2 => .inl ⟨i, rfl, q H2 e2⟩
theorem ev_abs {i : Int} (ha : Ev ta σ H (.int i)) : Ev (tCB (fun xs H Q => ∃ i, xs = [.int i] ∧ Q (.int (if i < 0 then -i else i)) H) (tCons ta tNil)) σ H (.int (if i < 0 then -i else i)) := fun H1 e Q q =>
  ha H1 e _ fun H2 e2 => ⟨i, rfl, q H2 e2⟩
theorem ev_min2 {i j : Int} (ha : Ev ta σ H (.int i)) (hb : Ev tb σ H (.int j)) : Ev (tCB (fun xs H Q => ∃ i j, xs = [.int i, .int j] ∧ Q (.int (if j < i then j else i)) H) (tCons ta (tCons tb tNil))) σ H (.int (if j < i then j else i)) := fun H1 e Q q =>
  ha H1 e _ fun H2 e2 => hb H2 (e.trans e2) _ fun H3 e3 => ⟨i, j, rfl, q H3 (e2.trans e3)⟩
/-- tuple(xs), xs a new list -/
def rTupOf (K : PySem.W.Frag) : List V → Hp → VK → Prop := fun xs H Q => ∃ p ys, xs = [.ref p] ∧ ((SqL K H p ys ∧ ∀ l, H l = none → Q (.ref l) (upd H l (.tup ys))) ∨ (SqT K H p ys ∧ Q (.ref p) H))
theorem eu_tupOf {p : Addr} {xs : List V} (ha : Ev ta σ H (.ref p)) (h : SqL K H p xs) : EvU (tCB (rTupOf K) (tCons ta tNil)) σ H xs := fun H1 e Q q =>
  ha H1 e _ fun H2 e2 => ⟨p, xs, rfl, .inl ⟨ex_l (e.trans e2) h, fun l hl => q l _ (fresh_back e2 hl) (e2.trans (Ex.new hl)) upd_same⟩⟩
theorem eu_tupOfN {xs : List V} (ha : EvL ta σ H xs) : EvU (tCB (rTupOf K) (tCons ta tNil)) σ H xs := fun H1 e Q q =>
  ha H1 e _ fun p H2 hp e2 h2 => ⟨p, xs, rfl, .inl ⟨sq_of h2, fun l hl => q l _ (fresh_back e2 hl) (e2.trans (Ex.new hl)) upd_same⟩⟩
/-- a + b of lists -/
theorem el_cat {p q : Addr} {xs ys : List V} (ha : Ev ta σ H (.ref p)) (hb : EvL tb σ H ys) (h : H p = some (.lst xs)) (hz : xs.length + ys.length ≤ 100000) : EvL (tOp rCat ta tb) σ H (xs ++ ys) := fun H1 e Q k =>
  ha H1 e _ fun H2 e2 => hb H2 (e.trans e2) _ fun r H3 hr e3 h3 => ⟨p, r, xs, ys, rfl, rfl, e3 _ _ (e2 _ _ (e _ _ h)), h3, sz_of hz, fun l hl => k l _ (fresh_back (e2.trans e3) hl) ((e2.trans e3).trans (Ex.new hl)) upd_same⟩
theorem el_catNN {xs ys : List V} (ha : EvL ta σ H xs) (hb : EvL tb σ H ys) (hz : xs.length + ys.length ≤ 100000) : EvL (tOp rCat ta tb) σ H (xs ++ ys) := fun H1 e Q k =>
  ha H1 e _ fun p H2 hp e2 h2 => hb H2 (e.trans e2) _ fun r H3 hr e3 h3 => ⟨p, r, xs, ys, rfl, rfl, e3 _ _ h2, h3, sz_of hz, fun l hl => k l _ (fresh_back (e2.trans e3) hl) ((e2.trans e3).trans (Ex.new hl)) upd_same⟩
theorem el_catPP {p q : Addr} {xs ys : List V} (ha : Ev ta σ H (.ref p)) (hb : Ev tb σ H (.ref q)) (h : H p = some (.lst xs)) (h' : H q = some (.lst ys)) (hz : xs.length + ys.length ≤ 100000) : EvL (tOp rCat ta tb) σ H (xs ++ ys) := fun H1 e Q k =>
  ha H1 e _ fun H2 e2 => hb H2 (e.trans e2) _ fun H3 e3 => ⟨p, q, xs, ys, rfl, rfl, e3 _ _ (e2 _ _ (e _ _ h)), e3 _ _ (e2 _ _ (e _ _ h')), sz_of hz, fun l hl => k l _ (fresh_back (e2.trans e3) hl) ((e2.trans e3).trans (Ex.new hl)) upd_same⟩

/-! ### pairs: enumerate, zip -/
abbrev g2 (K : PySem.W.Frag) (i j : Nat) : TG := gTup K 2 (gCons (gName i) (gCons (gName j) gNil))
theorem g2_go {i j : Nat} {T : Addr} {x y : V} {Q : L2.St → Hp → Prop} (h : H T = some (.tup [x, y])) (q : Q ((σ.set i (some x)).set j (some y)) H) : g2 K i j (.ref T) σ H Q :=
  ⟨T, [x, y], rfl, .inl (.inl h), rfl, x, [y], rfl, y, [], rfl, rfl, q⟩
variable {D : Ends} {tu tz : TS}
theorem for_Itn {a : Addr} {xs : List V} {c : Int} {i j : Nat} (Pv : Nat → L2.St → Hp → Prop) (h0 : Pv 0 σ H) (hl : ∀ n σ' H', n ≤ xs.length → Pv n σ' H' → SqL K H' a xs)
    (hs : ∀ n x σ' H', xs[n]? = some x → Pv n σ' H' → ∀ H1, Ex H' H1 → tu { D with nx := Pv (n + 1), ct := Pv (n + 1), bk := D.nx } ((σ'.set i (some (.int (c + (n : Nat))))).set j (some x)) H1) (hd : ∀ σ' H', Pv xs.length σ' H' → D.nx σ' H') :
    ∃ W : Nat → Nat → L2.St → Hp → Prop, (∃ m, W 0 m σ H) ∧ ∀ n m σ H, W n m σ H → ((Itn K a c).stop n H ∧ D.nx σ H) ∨ ((Itn K a c).go n H ∧ ∃ N : L2.St → Hp → Prop, (∀ σ' H', N σ' H' → ∃ m', m' < m ∧ W (n + 1) m' σ' H') ∧
      ∀ x H', (Itn K a c).yld n H x H' → g2 K i j x σ H' fun σ2 H2 => tu { D with nx := N, ct := N, bk := D.nx } σ2 H2) := by
  refine ⟨fun n m σ H => m = xs.length - n ∧ n ≤ xs.length ∧ Pv n σ H, ⟨xs.length, by simp, Nat.zero_le _, h0⟩, ?_⟩
  rintro n m σ H ⟨rfl, hi, p⟩
  have q := hl n σ H hi p
  by_cases hlt : n < xs.length
  · refine .inr ⟨⟨xs, xs[n], q, by simp [hlt]⟩, Pv (n + 1), fun σ' H' p' => ⟨xs.length - (n + 1), by omega, rfl, hlt, p'⟩, ?_⟩
    rintro v H' ⟨T, x, rfl, nT, rfl, hx⟩
    exact g2_go upd_same (hs n x σ H (hx xs q) p _ (Ex.new nT))
  · have e : n = xs.length := by omega
    subst e
    exact .inl ⟨⟨xs, q, rfl⟩, hd σ H p⟩
theorem for_Ite {a : Addr} {xs : List V} {i j : Nat} (Pv : Nat → L2.St → Hp → Prop) (h0 : Pv 0 σ H) (hl : ∀ n σ' H', n ≤ xs.length → Pv n σ' H' → SqL K H' a xs)
    (hs : ∀ n x σ' H', xs[n]? = some x → Pv n σ' H' → ∀ H1, Ex H' H1 → tu { D with nx := Pv (n + 1), ct := Pv (n + 1), bk := D.nx } ((σ'.set i (some (.int (n : Nat)))).set j (some x)) H1) (hd : ∀ σ' H', Pv xs.length σ' H' → D.nx σ' H') :
    ∃ W : Nat → Nat → L2.St → Hp → Prop, (∃ m, W 0 m σ H) ∧ ∀ n m σ H, W n m σ H → ((Ite K a).stop n H ∧ D.nx σ H) ∨ ((Ite K a).go n H ∧ ∃ N : L2.St → Hp → Prop, (∀ σ' H', N σ' H' → ∃ m', m' < m ∧ W (n + 1) m' σ' H') ∧
      ∀ x H', (Ite K a).yld n H x H' → g2 K i j x σ H' fun σ2 H2 => tu { D with nx := N, ct := N, bk := D.nx } σ2 H2) := by
  refine ⟨fun n m σ H => m = xs.length - n ∧ n ≤ xs.length ∧ Pv n σ H, ⟨xs.length, by simp, Nat.zero_le _, h0⟩, ?_⟩
  rintro n m σ H ⟨rfl, hi, p⟩
  have q := hl n σ H hi p
  by_cases hlt : n < xs.length
  · refine .inr ⟨⟨xs, xs[n], q, by simp [hlt]⟩, Pv (n + 1), fun σ' H' p' => ⟨xs.length - (n + 1), by omega, rfl, hlt, p'⟩, ?_⟩
    rintro v H' ⟨T, x, rfl, nT, rfl, hx⟩
    exact g2_go upd_same (hs n x σ H (hx xs q) p _ (Ex.new nT))
  · have e : n = xs.length := by omega
    subst e
    exact .inl ⟨⟨xs, q, Nat.le_refl _⟩, hd σ H p⟩
theorem s_forEn {a : Addr} {xs : List V} {tl : TE} {i j : Nat} (h : Ev tl σ H (.ref a)) (hx : SqL K H a xs) (Pv : Nat → L2.St → Hp → Prop) (h0 : ∀ H1, Ex H H1 → Pv 0 σ H1) (hl : ∀ n σ' H', n ≤ xs.length → Pv n σ' H' → SqL K H' a xs)
    (hs : ∀ n x σ' H', xs[n]? = some x → Pv n σ' H' → ∀ H1, Ex H' H1 → tu { D with nx := Pv (n + 1), ct := Pv (n + 1), bk := D.nx } ((σ'.set i (some (.int (n : Nat)))).set j (some x)) H1) (hd : ∀ σ' H', Pv xs.length σ' H' → D.nx σ' H') :
    tFor (iEnum K (tCons tl tNil)) (g2 K i j) tu D σ H :=
  h H (Ex.refl H) _ fun H1 e => ⟨a, xs, rfl, ex_l e hx, for_Ite Pv (h0 H1 e) hl hs hd⟩
theorem s_forEnC {a : Addr} {xs : List V} {tl : TE} {c : Int} {i j : Nat} (h : Ev tl σ H (.ref a)) (hx : SqL K H a xs) (Pv : Nat → L2.St → Hp → Prop) (h0 : ∀ H1, Ex H H1 → Pv 0 σ H1) (hl : ∀ n σ' H', n ≤ xs.length → Pv n σ' H' → SqL K H' a xs)
    (hs : ∀ n x σ' H', xs[n]? = some x → Pv n σ' H' → ∀ H1, Ex H' H1 → tu { D with nx := Pv (n + 1), ct := Pv (n + 1), bk := D.nx } ((σ'.set i (some (.int (c + (n : Nat))))).set j (some x)) H1) (hd : ∀ σ' H', Pv xs.length σ' H' → D.nx σ' H') :
    tFor (iEnumC K (tCons tl tNil) c) (g2 K i j) tu D σ H :=
  h H (Ex.refl H) _ fun H1 e => ⟨a, xs, rfl, ex_l e hx, for_Itn Pv (h0 H1 e) hl hs hd⟩
theorem s_forNEnC {xs : List V} {tl : TE} {c : Int} {i j : Nat} (h : EvL tl σ H xs) (Pv : Addr → Nat → L2.St → Hp → Prop) (h0 : ∀ p H1, H p = none → Ex H H1 → H1 p = some (.lst xs) → Pv p 0 σ H1) (hl : ∀ p n σ' H', n ≤ xs.length → Pv p n σ' H' → SqL K H' p xs)
    (hs : ∀ p n x σ' H', xs[n]? = some x → Pv p n σ' H' → ∀ H1, Ex H' H1 → tu { D with nx := Pv p (n + 1), ct := Pv p (n + 1), bk := D.nx } ((σ'.set i (some (.int (c + (n : Nat))))).set j (some x)) H1) (hd : ∀ p σ' H', Pv p xs.length σ' H' → D.nx σ' H') :
    tFor (iEnumC K (tCons tl tNil) c) (g2 K i j) tu D σ H :=
  h H (Ex.refl H) _ fun p H1 hp e h1 => ⟨p, xs, rfl, sq_of h1, for_Itn (Pv p) (h0 p H1 hp e h1) (hl p) (hs p) (hd p)⟩

/-- [e for i, x in enumerate(xs, start=c) if ..] of pure parts -/
theorem lc_Itn {a : Addr} {xs : List V} {c : Int} {i j : Nat} {vs : List Nat} {H1 : Hp} {Dl : Addr} {Qd : Hp → Prop} (f : Nat → Bool) (v : Nat → V) (hD : H1 Dl = none) (hx : SqL K H1 a xs) (hz : xs.length ≤ 40000)
    (hw : ∀ x y, wipe (((wipe σ vs).set i (some x)).set j (some y)) vs = wipe σ vs)
    (ht : ∀ (n : Nat) x H2, Ex H1 H2 → xs[n]? = some x → EvT t (((wipe σ vs).set i (some (.int (c + (n : Nat))))).set j (some x)) H2 (f n))
    (he : ∀ (n : Nat) x H2, Ex H1 H2 → xs[n]? = some x → f n = true → Ev te (((wipe σ vs).set i (some (.int (c + (n : Nat))))).set j (some x)) H2 (v n)) (hd : ∀ H', Cw H1 f v Dl xs.length H' → Qd H') :
    ∃ W : Nat → Nat → Hp → Prop, (∃ m, W 0 m (upd H1 Dl (.lst []))) ∧ ∀ n m H, W n m H →
      ((Itn K a c).stop n H ∧ Qd H) ∨ ((Itn K a c).go n H ∧ ∃ Nx : Hp → Prop, (∀ H', Nx H' → ∃ m', m' < m ∧ W (n + 1) m' H') ∧ ∀ x H', (Itn K a c).yld n H x H' → g2 K i j x (wipe σ vs) H' fun σ2 H2 => wipe σ2 vs = wipe σ vs ∧ t σ2 H2 fun b H3 =>
        if b = true then te σ2 H3 fun y H4 => ∃ acc, H4 Dl = some (.lst acc) ∧ acc.length < sizeLine ∧ Nx (upd H4 Dl (.lst (acc ++ [y]))) else Nx H3) := by
  refine ⟨fun n m H => m = xs.length - n ∧ n ≤ xs.length ∧ Cw H1 f v Dl n H, ⟨xs.length, by simp, Nat.zero_le _, hD, Ex.new hD, upd_same⟩, ?_⟩
  rintro n m H ⟨rfl, hi, p⟩
  have q := ex_l p.2.1 hx
  by_cases hlt : n < xs.length
  · refine .inr ⟨⟨xs, xs[n], q, by simp [hlt]⟩, Cw H1 f v Dl (n + 1), fun H' p' => ⟨xs.length - (n + 1), by omega, rfl, hlt, p'⟩, ?_⟩
    rintro w H' ⟨T, x, rfl, nT, rfl, hg⟩
    have e1 := Ex.new (o := .tup [.int (c + (n : Nat)), x]) nT
    have gx := hg xs q
    refine g2_go upd_same ⟨hw _ _, cw_turn ⟨p.1, p.2.1.trans e1, e1 _ _ p.2.2⟩ (by omega) (ht n x H1 (Ex.refl H1) gx) (he n x H1 (Ex.refl H1) gx)⟩
  · have e : n = xs.length := by omega
    subst e
    exact .inl ⟨⟨xs, q, rfl⟩, hd H p⟩
theorem el_lcEnC {a : Addr} {xs : List V} {tl : TE} {c : Int} {i j : Nat} {vs : List Nat} (f : Nat → Bool) (v : Nat → V) (h : Ev tl σ H (.ref a)) (hx : SqL K H a xs) (hz : xs.length ≤ 40000)
    (hw : ∀ x y, wipe (((wipe σ vs).set i (some x)).set j (some y)) vs = wipe σ vs)
    (ht : ∀ (n : Nat) x H1, Ex H H1 → xs[n]? = some x → EvT t (((wipe σ vs).set i (some (.int (c + (n : Nat))))).set j (some x)) H1 (f n))
    (he : ∀ (n : Nat) x H1, Ex H H1 → xs[n]? = some x → f n = true → Ev te (((wipe σ vs).set i (some (.int (c + (n : Nat))))).set j (some x)) H1 (v n)) :
    EvL (tLc (iEnumC K (tCons tl tNil) c) (g2 K i j) t te vs) σ H (given xs.length f v) := fun H0 e Q q => h H0 e _ fun H1 e1 => ⟨a, xs, rfl, ex_l (e.trans e1) hx, fun Dl hD =>
  lc_Itn f v hD (ex_l (e.trans e1) hx) hz hw (fun n x H2 e2 gx => ht n x H2 ((e.trans e1).trans e2) gx) (fun n x H2 e2 gx hf => he n x H2 ((e.trans e1).trans e2) gx hf) fun H' p => q Dl H' (fresh_back e1 p.1) (e1.trans p.2.1) p.2.2⟩
theorem el_lcNEnC {xs : List V} {tl : TE} {c : Int} {i j : Nat} {vs : List Nat} (f : Nat → Bool) (v : Nat → V) (h : EvL tl σ H xs) (hz : xs.length ≤ 40000)
    (hw : ∀ x y, wipe (((wipe σ vs).set i (some x)).set j (some y)) vs = wipe σ vs)
    (ht : ∀ (n : Nat) x H1, Ex H H1 → xs[n]? = some x → EvT t (((wipe σ vs).set i (some (.int (c + (n : Nat))))).set j (some x)) H1 (f n))
    (he : ∀ (n : Nat) x H1, Ex H H1 → xs[n]? = some x → f n = true → Ev te (((wipe σ vs).set i (some (.int (c + (n : Nat))))).set j (some x)) H1 (v n)) :
    EvL (tLc (iEnumC K (tCons tl tNil) c) (g2 K i j) t te vs) σ H (given xs.length f v) := fun H0 e Q q => h H0 e _ fun a H1 ha e1 h1 => ⟨a, xs, rfl, sq_of h1, fun Dl hD =>
  lc_Itn f v hD (sq_of h1) hz hw (fun n x H2 e2 gx => ht n x H2 ((e.trans e1).trans e2) gx) (fun n x H2 e2 gx hf => he n x H2 ((e.trans e1).trans e2) gx hf) fun H' p => q Dl H' (fresh_back e1 p.1) (e1.trans p.2.1) p.2.2⟩
/-- [e for x, y in zip(xs, ys)] of pure parts -/
theorem el_lcZ {a b : Addr} {xs ys : List V} {tl tr : TE} {i j : Nat} {vs : List Nat} (v : Nat → V) (h : Ev tl σ H (.ref a)) (h' : Ev tr σ H (.ref b)) (hx : SqL K H a xs) (hy : SqL K H b ys) (hz : xs.length ≤ 40000)
    (hw : ∀ x y, wipe (((wipe σ vs).set i (some x)).set j (some y)) vs = wipe σ vs)
    (he : ∀ (n : Nat) x y H1, Ex H H1 → xs[n]? = some x → ys[n]? = some y → Ev te (((wipe σ vs).set i (some x)).set j (some y)) H1 (v n)) :
    EvL (tLc (iZip K (tCons tl (tCons tr tNil))) (g2 K i j) tYes te vs) σ H (given (min xs.length ys.length) (fun _ => true) v) := fun H0 e Q q => h H0 e _ fun H1 e1 => h' H1 (e.trans e1) _ fun H2 e2 => by
  have ee := (e.trans e1).trans e2
  refine ⟨a, b, xs, ys, rfl, ex_l ee hx, ex_l ee hy, fun Dl hD => ?_⟩
  refine ⟨fun n m H => m = min xs.length ys.length - n ∧ n ≤ min xs.length ys.length ∧ Cw H2 (fun _ => true) v Dl n H, ⟨min xs.length ys.length, by simp, Nat.zero_le _, hD, Ex.new hD, upd_same⟩, ?_⟩
  rintro n m H ⟨rfl, hi, p⟩
  have qx := ex_l (ee.trans p.2.1) hx
  have qy := ex_l (ee.trans p.2.1) hy
  by_cases hlt : n < min xs.length ys.length
  · have h1 : n < xs.length := by omega
    have h2 : n < ys.length := by omega
    refine .inr ⟨⟨xs, ys, xs[n], ys[n], qx, qy, by simp [h1], by simp [h2]⟩, Cw H2 (fun _ => true) v Dl (n + 1), fun H' p' => ⟨min xs.length ys.length - (n + 1), by omega, rfl, hlt, p'⟩, ?_⟩
    rintro w H' ⟨T, x, y, rfl, nT, rfl, gx, gy⟩
    have e3 := Ex.new (o := .tup [x, y]) nT
    refine g2_go upd_same ⟨hw _ _, cw_turn ⟨p.1, p.2.1.trans e3, e3 _ _ p.2.2⟩ (by omega) (fun H3 _ Q q => q H3 (Ex.refl H3)) fun _ => he n x y H2 ee (gx xs qx) (gy ys qy)⟩
  · have e' : n = min xs.length ys.length := by omega
    subst e'
    exact .inl ⟨⟨xs, ys, qx, qy, by omega⟩, q Dl H (fresh_back (e1.trans e2) p.1) ((e1.trans e2).trans p.2.1) p.2.2⟩
end
end Bk
namespace Bk
open PySem PySem.Spec PyProof.Rows L2 Evl

section
variable {K : PySem.W.Frag} {σ : L2.St} {H H' : Hp} {ta tb te tc : TE} {t u : TT} {x y z v : V}
theorem ev_chain {r r' : R2} {w : V} {a b : Bool} (ha : Ev ta σ H x) (hb : Ev tb σ H y) (h1 : RV r x y H (.bl a)) (hc : a = true → Ev tc σ H w) (h2 : a = true → RV r' y w H (.bl b)) : Ev (tChain r r' ta tb tc) σ H (.bl (a && b)) := fun H1 e Q q =>
  ha H1 e _ fun H2 e2 => hb H2 (e.trans e2) _ fun H3 e3 => h1 H3 ((e.trans e2).trans e3) _ fun H4 e4 => ⟨a, rfl, by
    have ee := ((e.trans e2).trans e3).trans e4
    cases a with
    | false =>
      refine iteF ?_
      exact q H4 ((e2.trans e3).trans e4)
    | true =>
      refine iteT ?_
      exact hc rfl H4 ee _ fun H5 e5 => h2 rfl H5 (ee.trans e5) _ fun H6 e6 => q H6 ((((e2.trans e3).trans e4).trans e5).trans e6)⟩
/-- [0] * n and its like -/
theorem el_rep {xs : List V} {n : Int} (ha : EvL ta σ H xs) (hb : ∀ H1, Ex H H1 → Ev tb σ H1 (.int n)) (h0 : 0 ≤ n) (hz : xs.length * n.toNat ≤ 100000) (hn : n ≤ 100000) : EvL (tOp rRep ta tb) σ H (List.replicate n.toNat xs).flatten := fun H1 e Q q =>
  ha H1 e _ fun p H2 hp e2 h2 => hb H2 (e.trans e2) H2 (Ex.refl H2) _ fun H3 e3 => ⟨p, n, xs, rfl, rfl, e3 _ _ h2, by omega, by omega, sz_of hz, fun l hl => q l _ (fresh_back (e2.trans e3) hl) ((e2.trans e3).trans (Ex.new hl)) upd_same⟩
theorem el_ofL {p : Addr} {xs : List V} (ha : Ev ta σ H (.ref p)) (h : SqL K H p xs) : EvL (tCB (fun xs H Q => ∃ p ys, xs = [.ref p] ∧ (SqL K H p ys ∨ SqT K H p ys) ∧ ∀ l, H l = none → Q (.ref l) (upd H l (.lst ys))) (tCons ta tNil)) σ H xs := el_list ha h
/-- list(range(a, b)) -/
theorem el_rg1 {n : Int} (ha : Ev ta σ H (.int n)) (h0 : 0 ≤ n) (hn : n ≤ 100000) : EvL (tLstRg (tRg1 ta)) σ H (rgV 0 n) := fun H1 e Q q =>
  ha H1 e _ fun H2 e2 => ⟨n, rfl, RgOk.of_le (by omega) (by omega) (by omega) h0, fun l hl => q l _ (fresh_back e2 hl) (e2.trans (Ex.new hl)) upd_same⟩
theorem ev_lenT {p : Addr} {xs : List V} (ha : Ev ta σ H (.ref p)) (h : SqT K H p xs) : Ev (tCB (rLenS K) (tCons ta tNil)) σ H (.int (xs.length : Int)) := fun H1 e Q q =>
  ha H1 e _ fun H2 e2 => ⟨p, xs, rfl, Or.inr (ex_t (e.trans e2) h), q H2 e2⟩
theorem ev_lenNT {xs : List V} (ha : EvU ta σ H xs) : Ev (tCB (rLenS K) (tCons ta tNil)) σ H (.int (xs.length : Int)) := fun H1 e Q q =>
  ha H1 e _ fun p H2 _ e2 h2 => ⟨p, xs, rfl, Or.inr (st_of h2), q H2 e2⟩
/-- repr of lists and tuples of ints -/
theorem ev_reprL {p : Addr} {ns : List Int} (ha : Ev ta σ H (.ref p)) (h : SqL K H p (vi ns)) (hw : wide 1900 ns) (hz : ns.length ≤ 4000) : Ev (tCB (rRepr K) (tCons ta tNil)) σ H (.str (PyData.list (di ns)).shown) := fun H1 e Q q =>
  ha H1 e _ fun H2 e2 => repr_l (ex_l (e.trans e2) h) hw hz (q H2 e2)
theorem ev_reprNL {ns : List Int} (ha : EvL ta σ H (vi ns)) (hw : wide 1900 ns) (hz : ns.length ≤ 4000) : Ev (tCB (rRepr K) (tCons ta tNil)) σ H (.str (PyData.list (di ns)).shown) := fun H1 e Q q =>
  ha H1 e _ fun p H2 _ e2 h2 => repr_l (sq_of h2) hw hz (q H2 e2)
theorem ev_reprT {p : Addr} {ns : List Int} (ha : Ev ta σ H (.ref p)) (h : SqT K H p (vi ns)) (hw : wide 1900 ns) (hz : ns.length ≤ 4000) : Ev (tCB (rRepr K) (tCons ta tNil)) σ H (.str (PyData.tuple (di ns)).shown) := fun H1 e Q q =>
  ha H1 e _ fun H2 e2 => repr_t (ex_t (e.trans e2) h) hw hz (q H2 e2)
theorem ev_reprNT {ns : List Int} (ha : EvU ta σ H (vi ns)) (hw : wide 1900 ns) (hz : ns.length ≤ 4000) : Ev (tCB (rRepr K) (tCons ta tNil)) σ H (.str (PyData.tuple (di ns)).shown) := fun H1 e Q q =>
  ha H1 e _ fun p H2 _ e2 h2 => repr_t (st_of h2) hw hz (q H2 e2)
/-- == and != of data -/
theorem rv_eqL {p q : Addr} {ns ms : List Int} (h : SqL K H p (vi ns)) (h' : SqL K H q (vi ms)) : RV (rEqD K) (.ref p) (.ref q) H (.bl (decide (ns = ms))) := fun H1 e Q k =>
  ⟨_, _, dp_lst (ex_l e h), dp_lst (ex_l e h'), shaped_l ns, shaped_l ms, by rw [eqv_l]; exact k H1 (Ex.refl H1)⟩
theorem rv_neL {p q : Addr} {ns ms : List Int} (h : SqL K H p (vi ns)) (h' : SqL K H q (vi ms)) : RV (rNeD K) (.ref p) (.ref q) H (.bl (!decide (ns = ms))) := fun H1 e Q k =>
  ⟨_, _, dp_lst (ex_l e h), dp_lst (ex_l e h'), shaped_l ns, shaped_l ms, by rw [eqv_l]; exact k H1 (Ex.refl H1)⟩
/-- a new tuple from a call -/
def SpU (sp : Sp) (vs : List V) (H : Hp) (xs : List V) : Prop := ∀ H1, Ex H H1 → ∀ Q : VK, (∀ p H2, H1 p = none → Ex H1 H2 → H2 p = some (.tup xs) → Q (.ref p) H2) → ∀ E : XK, sp vs H1 Q E
theorem eu_call {sp : Sp} {dvs vs xs : List V} {E : XK} {ta : TA} (h : EvA ta σ H vs) (hs : SpU sp (vs ++ dvs) H xs) : EvU (tCall sp dvs E ta) σ H xs := fun H1 e Q q =>
  h H1 e _ fun H2 e2 => hs H2 (e.trans e2) Q (fun p H3 hp e3 h3 => q p H3 (fresh_back e2 hp) (e2.trans e3) h3) E
theorem eu_callK {sp : Sp} {gV : List V → List V → List V} {vs zs xs : List V} {E : XK} {ta tk : TA} (h : EvA ta σ H vs) (h' : EvA tk σ H zs) (hs : SpU sp (gV vs zs) H xs) : EvU (tCallK sp gV E ta tk) σ H xs := fun H1 e Q q =>
  h H1 e _ fun H2 e2 => h' H2 (e.trans e2) _ fun H3 e3 => hs H3 ((e.trans e2).trans e3) Q (fun p H4 hp e4 h4 => q p H4 (fresh_back (e2.trans e3) hp) ((e2.trans e3).trans e4) h4) E
theorem el_callK {sp : Sp} {gV : List V → List V → List V} {vs zs xs : List V} {E : XK} {ta tk : TA} (h : EvA ta σ H vs) (h' : EvA tk σ H zs) (hs : SpL sp (gV vs zs) H xs) : EvL (tCallK sp gV E ta tk) σ H xs := fun H1 e Q q =>
  h H1 e _ fun H2 e2 => h' H2 (e.trans e2) _ fun H3 e3 => hs H3 ((e.trans e2).trans e3) Q (fun p H4 hp e4 h4 => q p H4 (fresh_back (e2.trans e3) hp) ((e2.trans e3).trans e4) h4) E
theorem ev_callK {sp : Sp} {gV : List V → List V → List V} {vs zs : List V} {E : XK} {ta tk : TA} (h : EvA ta σ H vs) (h' : EvA tk σ H zs) (hs : SpV sp (gV vs zs) H z) : Ev (tCallK sp gV E ta tk) σ H z := fun H1 e Q q =>
  h H1 e _ fun H2 e2 => h' H2 (e.trans e2) _ fun H3 e3 => hs H3 ((e.trans e2).trans e3) Q (fun H4 e4 => q H4 ((e2.trans e3).trans e4)) E
/-- an argument that is a new list, then a call -/
theorem eu_callL {sp : Sp} {xs ys : List V} {E : XK} (h : EvL ta σ H xs) (hs : ∀ p H1, Ex H H1 → H1 p = some (.lst xs) → SpU sp [.ref p] H1 ys) : EvU (tCall sp [] E (tCons ta tNil)) σ H ys := fun H1 e Q q =>
  h H1 e _ fun p H2 hp e2 h2 => hs p H2 (e.trans e2) h2 H2 (Ex.refl H2) Q (fun r H3 hr e3 h3 => q r H3 (fresh_back e2 hr) (e2.trans e3) h3) E
theorem el_callL {sp : Sp} {xs ys : List V} {E : XK} (h : EvL ta σ H xs) (hs : ∀ p H1, Ex H H1 → H1 p = some (.lst xs) → SpL sp [.ref p] H1 ys) : EvL (tCall sp [] E (tCons ta tNil)) σ H ys := fun H1 e Q q =>
  h H1 e _ fun p H2 hp e2 h2 => hs p H2 (e.trans e2) h2 H2 (Ex.refl H2) Q (fun r H3 hr e3 h3 => q r H3 (fresh_back e2 hr) (e2.trans e3) h3) E
theorem ev_callL {sp : Sp} {xs : List V} {E : XK} (h : EvL ta σ H xs) (hs : ∀ p H1, Ex H H1 → H1 p = some (.lst xs) → SpV sp [.ref p] H1 z) : Ev (tCall sp [] E (tCons ta tNil)) σ H z := fun H1 e Q q =>
  h H1 e _ fun p H2 hp e2 h2 => hs p H2 (e.trans e2) h2 H2 (Ex.refl H2) Q (fun H3 e3 => q H3 (e2.trans e3)) E
theorem ev_callU {sp : Sp} {xs : List V} {E : XK} (h : EvU ta σ H xs) (hs : ∀ p H1, Ex H H1 → H1 p = some (.tup xs) → SpV sp [.ref p] H1 z) : Ev (tCall sp [] E (tCons ta tNil)) σ H z := fun H1 e Q q =>
  h H1 e _ fun p H2 hp e2 h2 => hs p H2 (e.trans e2) h2 H2 (Ex.refl H2) Q (fun H3 e3 => q H3 (e2.trans e3)) E
def RetU (xs : List V) (H : Hp) (Q : VK) : Prop := ∀ p H2, H p = none → Ex H H2 → H2 p = some (.tup xs) → Q (.ref p) H2
end

/-! ### a well: three ints, of which draws are made -/
def Well (H : Hp) (a : Addr) (n : Nat) : Prop := ∃ x y c : Int, H a = some (.lst [.int x, .int y, .int c]) ∧ 0 ≤ y ∧ y < 2 ^ 200 ∧ 0 ≤ c ∧ c ≤ n
theorem Well.mono {H : Hp} {a : Addr} {n m : Nat} (h : Well H a n) (l : n ≤ m) : Well H a m := by
  obtain ⟨x, y, c, h1, h2, h3, h4, h5⟩ := h
  exact ⟨x, y, c, h1, h2, h3, h4, by omega⟩
theorem Well.ex {H H' : Hp} {a : Addr} {n : Nat} (h : Well H a n) (e : Ex H H') : Well H' a n := by
  obtain ⟨x, y, c, h1, h2⟩ := h
  exact ⟨x, y, c, e _ _ h1, h2⟩
theorem Well.ne {H : Hp} {a p : Addr} {n : Nat} (h : Well H a n) (hp : H p = none) : p ≠ a := by
  obtain ⟨x, y, c, h1, h2⟩ := h
  exact (ne_of_none h1 hp).symm
/-- the promise of a draw -/
def sp_dr (K : PySem.W.Frag) : Sp := fun vs H Q _ => ∃ (a : Addr) (n : Nat) (m : Int), vs = [.ref a, .int m] ∧ Well H a n ∧ n + 1 ≤ 2 ^ 50 ∧ 0 < m ∧ m < 2 ^ 8000 ∧
  ∀ (r : Int) (H2 : Hp), But a H H2 → Well H2 a (n + 1) → 0 ≤ r → r < m → Q (.int r) H2
/-- without the well -/
def hid (a : Addr) (H : Hp) : Hp := fun b => if b = a then none else H b
theorem hid_ne {a b : Addr} {H : Hp} (h : b ≠ a) : hid a H b = H b := if_neg h
theorem ex_hid {a : Addr} {H H1 : Hp} (x : But a H H1) : Ex (hid a H) H1 := fun b o h => by
  by_cases c : b = a
  · rw [c] at h
    unfold hid at h
    rw [if_pos rfl] at h
    cases h
  · rw [hid_ne c] at h
    exact x b o c h
theorem But.ex {a : Addr} {H H1 : Hp} (x : Ex H H1) : But a H H1 := fun b o _ h => x b o h
/-- what evaluates, drawing d times, to something of which P -/
def EvW (a : Addr) (d : Nat) (te : TE) (σ : L2.St) (H : Hp) (P : V → Prop) : Prop := ∀ (n : Nat) (H1 : Hp), But a H H1 → Well H1 a n → n + d ≤ 2 ^ 50 → ∀ Q : VK, (∀ v H2, But a H1 H2 → Well H2 a (n + d) → P v → Q v H2) → te σ H1 Q
def EvWL (a : Addr) (d : Nat) (te : TE) (σ : L2.St) (H : Hp) (P : List V → Prop) : Prop := ∀ (n : Nat) (H1 : Hp), But a H H1 → Well H1 a n → n + d ≤ 2 ^ 50 → ∀ Q : VK, (∀ p xs H2, H1 p = none → But a H1 H2 → Well H2 a (n + d) → H2 p = some (.lst xs) → P xs → Q (.ref p) H2) → te σ H1 Q
section
variable {K : PySem.W.Frag} {σ : L2.St} {H : Hp} {ta tb te ti tl : TE} {a : Addr} {d d1 d2 : Nat} {P P1 P2 : V → Prop} {v : V}
theorem EvW.mono (x : EvW a d te σ H P) (h : ∀ v, P v → P1 v) : EvW a d te σ H P1 := fun n H1 b w l Q q => x n H1 b w l Q fun v H2 b2 w2 p => q v H2 b2 w2 (h v p)
theorem ew_pure (h : Ev te σ (hid a H) v) (p : P v) : EvW a 0 te σ H P := fun n H1 b w l Q q => h H1 (ex_hid b) Q fun H2 e2 => q v H2 (But.ex e2) (w.ex e2) p
theorem ew_op {r : R2} (h1 : EvW a d1 ta σ H P1) (h2 : EvW a d2 tb σ H P2) (hr : ∀ x y, P1 x → P2 y → ∃ z, (∀ H, RV r x y H z) ∧ P z) : EvW a (d1 + d2) (tOp r ta tb) σ H P := fun n H1 b w l Q q =>
  h1 n H1 b w (by omega) _ fun x H2 b2 w2 p => h2 (n + d1) H2 (b.trans b2) w2 (by omega) _ fun y H3 b3 w3 p' => by
    obtain ⟨z, hz, pz⟩ := hr x y p p'
    refine hz H3 H3 (Ex.refl H3) Q fun H4 e4 => q z H4 ((b2.trans b3).trans (But.ex e4)) ?_ pz
    have w4 := w3.ex e4
    rw [Nat.add_assoc] at w4
    exact w4
/-- draw(well, e) -/
theorem ew_draw {i : Nat} {E : XK} (hσ : σ[i]? = some (some (.ref a))) (h : EvW a d te σ H P) (hP : ∀ v, P v → ∃ m : Int, v = .int m ∧ 0 < m ∧ m < 2 ^ 8000) :
    EvW a (d + 1) (tCall (sp_dr K) [] E (tCons (tVar i) (tCons te tNil))) σ H (fun v => ∃ m r : Int, P (.int m) ∧ v = .int r ∧ 0 ≤ r ∧ r < m) := fun n H1 b w l Q q => by
  refine ⟨.ref a, hσ, ?_⟩
  refine h n H1 b w (by omega) _ fun x H2 b2 w2 p => ?_
  obtain ⟨m, rfl, h0, h1⟩ := hP x p
  refine ⟨a, n + d, m, rfl, w2, by omega, h0, h1, fun r H3 b3 w3 r0 r1 => q _ H3 (b2.trans b3) ?_ ⟨m, r, p, rfl, r0, r1⟩⟩
  exact w3
/-- draw(well, m) -/
theorem ew_drawC {i : Nat} {E : XK} {m : Int} (hσ : σ[i]? = some (some (.ref a))) (h : Ev te σ (hid a H) (.int m)) (h0 : 0 < m) (h1 : m < 2 ^ 8000) :
    EvW a 1 (tCall (sp_dr K) [] E (tCons (tVar i) (tCons te tNil))) σ H (fun v => ∃ r : Int, v = .int r ∧ 0 ≤ r ∧ r < m) :=
  (ew_draw hσ (ew_pure (P := fun v => v = .int m) h rfl) fun v e => ⟨m, e, h0, h1⟩).mono fun v ⟨m', r, e, ev, r0, r1⟩ => by
    cases e
    exact ⟨r, ev, r0, r1⟩
/-- [..][e] with the list made ahead -/
theorem ew_ix {xs : List V} (hl : EvL tl σ (hid a H) xs) (hi : EvW a d ti σ H P) (hP : ∀ v, P v → ∃ (i : Int) (x : V), v = .int i ∧ atI xs i = some x ∧ P1 x) : EvW a d (tOp (rIxL K) tl ti) σ H P1 := fun n H1 b w l Q q =>
  hl H1 (ex_hid b) _ fun p H2 hp e2 h2 => hi n H2 (b.trans (But.ex e2)) (w.ex e2) l _ fun v H3 b3 w3 pv => by
    obtain ⟨i, x, rfl, hx, px⟩ := hP v pv
    exact ⟨p, xs, i, x, rfl, rfl, sq_of (b3 p _ (w.ne hp) h2), hx, q x H3 ((But.ex e2).trans b3) w3 px⟩
/-- an own value's wish: e + e' of ints -/
theorem ew_add {P1 P2 P : Int → Prop} (h1 : EvW a d1 ta σ H (fun v => ∃ r, v = .int r ∧ P1 r)) (h2 : EvW a d2 tb σ H (fun v => ∃ r, v = .int r ∧ P2 r)) (h : ∀ x y, P1 x → P2 y → P (x + y)) :
    EvW a (d1 + d2) (tOp (rI0 fun i j => .int (i + j)) ta tb) σ H (fun v => ∃ r, v = .int r ∧ P r) :=
  ew_op h1 h2 fun x y ⟨i, ei, p⟩ ⟨j, ej, p'⟩ => ⟨.int (i + j), fun H => by
    rw [ei, ej]
    exact rv_I0, i + j, rfl, h i j p p'⟩
theorem ew_c {i : Int} {P : Int → Prop} (p : P i) : EvW a 0 (tC (.int i)) σ H (fun v => ∃ r, v = .int r ∧ P r) := ew_pure ev_c ⟨i, rfl, p⟩
theorem ew_v {j : Nat} {i : Int} {P : Int → Prop} (h : σ[j]? = some (some (.int i))) (p : P i) : EvW a 0 (tVar j) σ H (fun v => ∃ r, v = .int r ∧ P r) := ew_pure (ev_var h) ⟨i, rfl, p⟩
/-! statements -/
variable {D : Ends} {tu tw tz : TS} {n : Nat}
theorem sw_asg {i : Nat} (h : EvW a d te σ H P) (w : Well H a n) (l : n + d ≤ 2 ^ 50) (k : ∀ v H1, But a H H1 → Well H1 a (n + d) → P v → D.nx (σ.set i (some v)) H1) : tAsg te (gName i) D σ H :=
  h n H (But.refl a H) w l _ fun v H2 b2 w2 p => k v H2 b2 w2 p
theorem qw_asg {i : Nat} (h : EvW a d te σ H P) (w : Well H a n) (l : n + d ≤ 2 ^ 50) (k : ∀ v H1, But a H H1 → Well H1 a (n + d) → P v → tz D (σ.set i (some v)) H1) : tSeq (tAsg te (gName i)) tz D σ H :=
  sw_asg (D := { D with nx := tz D }) h w l k
theorem qw_if {te : TE} (h : EvW a d te σ H (fun v => ∃ b, v = .bl b)) (w : Well H a n) (l : n + d ≤ 2 ^ 50) (k1 : ∀ H1, But a H H1 → Well H1 a (n + d) → tu { D with nx := tz D } σ H1)
    (k2 : ∀ H1, But a H H1 → Well H1 a (n + d) → tw { D with nx := tz D } σ H1) : tSeq (tIfS (tTest te) tu tw) tz D σ H :=
  h n H (But.refl a H) w l _ fun v H2 b2 w2 ⟨b, e⟩ => ⟨b, e, by
    cases b with
    | true => exact iteT (k1 H2 b2 w2)
    | false => exact iteF (k2 H2 b2 w2)⟩
/-- a test draw(..) == c -/
theorem ew_eq {P1 P2 : Int → Prop} (h1 : EvW a d1 ta σ H (fun v => ∃ r, v = .int r ∧ P1 r)) (h2 : EvW a d2 tb σ H (fun v => ∃ r, v = .int r ∧ P2 r)) : EvW a (d1 + d2) (tOp rEq ta tb) σ H (fun v => ∃ b, v = .bl b) :=
  ew_op h1 h2 fun x y ⟨i, ei, p⟩ ⟨j, ej, p'⟩ => ⟨.bl (decide (x = y)), fun H => by
    rw [ei, ej]
    exact rv_eq rfl, _, rfl⟩
end
end Bk
namespace Bk
open PySem PySem.Spec PyProof.Rows L2 Evl

section
variable {K : PySem.W.Frag} {H : Hp}
theorem rv_b {g : Int → Int → Bool} {i j : Int} {b : Bool} (h : g i j = b) : RV (rI0 fun i j => .bl (g i j)) (.int i) (.int j) H (.bl b) := h ▸ rv_I0 (g := fun i j => .bl (g i j))
theorem p10_pos (n : Nat) : 0 < (10 : Int) ^ n := Int.pow_pos (by decide)
theorem cpw {i j : Int} (h : i.natAbs < 2 ^ 250) (h0 : 0 ≤ j) (h1 : j ≤ 64) : CPowW i j := ⟨h0, h1, Nat.lt_of_lt_of_le h (Nat.pow_le_pow_right (by decide) (by decide))⟩
theorem cdw {j : Int} (i : Int) (h : 0 < j) (hb : j.natAbs < 2 ^ 250) : CDivW i j := wide_div h hb (by decide) (by decide)
theorem cdw8 {j : Int} (i : Int) (h : 0 < j) (hb : j < 2 ^ 8000) : CDivW i j := by
  refine wide_div (b := 8000) h ?_ (by decide) (by decide)
  have e : ((j.natAbs : Nat) : Int) = j := Int.natAbs_of_nonneg (by omega)
  have : ((j.natAbs : Nat) : Int) < ((2 ^ 8000 : Nat) : Int) := by
    rw [e, Int.natCast_pow]
    exact hb
  exact Int.ofNat_lt.mp this
theorem lt8000 {m : Int} (h : m < 2 ^ 250) : m < 2 ^ 8000 := by
  have a : ((2 : Nat) ^ 250) ≤ 2 ^ 8000 := Nat.pow_le_pow_right (by decide) (by decide)
  have b : (((2 : Nat) ^ 250 : Nat) : Int) ≤ (((2 : Nat) ^ 8000 : Nat) : Int) := Int.ofNat_le.mpr a
  rw [Int.natCast_pow, Int.natCast_pow] at b
  exact Int.lt_of_lt_of_le h b
/-- left factor small -/
theorem cml {i j : Int} (h : -(2 ^ 64) < i ∧ i < 2 ^ 64) : CMul i j := .inl h
theorem vi_inv {ns : List Int} {i : Nat} {x : V} (h : (vi ns)[i]? = some x) : ∃ m, x = .int m ∧ ns[i]? = some m ∧ ns.getD i 0 = m := by
  rw [List.getElem?_map] at h
  cases g : ns[i]? with
  | none =>
    rw [g] at h
    cases h
  | some m =>
    rw [g] at h
    cases h
    exact ⟨m, rfl, rfl, by rw [List.getD_eq_getElem?_getD, g]; rfl⟩
theorem given_all (n : Nat) (v : Nat → V) : given n (fun _ => true) v = (List.range n).map v := by
  unfold given
  rw [List.filter_eq_self.mpr (fun _ _ => rfl)]
theorem given_ints (n : Nat) (f : Nat → Int) : given n (fun _ => true) (fun i => V.int (f i)) = vi ((List.range n).map f) := by
  rw [given_all]
  unfold vi
  rw [List.map_map]
  rfl
variable {σ : L2.St} {ta tb te : TE} {t u : TT} {D : Ends} {tu tz : TS}
theorem el_is {xs ys : List V} (h : EvL te σ H xs) (e : xs = ys) : EvL te σ H ys := e ▸ h
theorem eu_is {xs ys : List V} (h : EvU te σ H xs) (e : xs = ys) : EvU te σ H ys := e ▸ h
theorem el_lcR2 {ta : TA} {j : Nat} {vs : List Nat} {lo n : Int} (f : Nat → Bool) (v : Nat → V) (h : EvA ta σ H [.int lo, .int n]) (hn : 0 ≤ lo ∧ lo ≤ 40000 ∧ -40000 ≤ n ∧ n ≤ 40000) (hw : ∀ x, wipe ((wipe σ vs).set j (some x)) vs = wipe σ vs)
    (ht : ∀ (i : Nat) H1, Ex H H1 → lo + (i : Int) < n → EvT t ((wipe σ vs).set j (some (.int (lo + (i : Int))))) H1 (f i)) (he : ∀ (i : Nat) H1, Ex H H1 → lo + (i : Int) < n → f i = true → Ev te ((wipe σ vs).set j (some (.int (lo + (i : Int))))) H1 (v i)) :
    EvL (tLc (iRng2 ta) (gName j) t te vs) σ H (given (n - lo).toNat f v) := fun H0 e Q q => h H0 e _ fun H1 e1 => ⟨lo, n, rfl, ⟨by omega, by omega, by omega, by omega⟩, fun Dl hD =>
  lc_range (lo := lo) (n := (n - lo).toNat) (Cw H1 f v Dl) ⟨hD, Ex.new hD, upd_same⟩ (fun i H' hi p =>
    ⟨hw _, cw_turn p (by omega) (ht i H1 (e.trans e1) (by omega)) (fun hf => he i H1 (e.trans e1) (by omega) hf)⟩) (fun H' p => q Dl H' (fresh_back e1 p.1) (e1.trans p.2.1) p.2.2)⟩
theorem et_yes : EvT tYes σ H true := fun H1 _ Q q => q H1 (Ex.refl H1)
/-- xs.extend(ys), ys new -/
theorem s_ext {l : Addr} {xs ys : List V} (hl : H l = some (.lst xs)) (ha : Ev ta σ H (.ref l)) (h : EvL te σ H ys) (hz : xs.length + ys.length ≤ 100000) (k : ∀ H1, Ex H H1 → D.nx σ (upd H1 l (.lst (xs ++ ys)))) :
    tDrop (tBM K "list" rExtend ta (tCons te tNil)) D σ H := ha H (Ex.refl H) _ fun H1 e1 =>
  ⟨Or.inl ⟨rfl, xs, sq_of (e1 l _ hl)⟩, h H1 e1 _ fun p H2 hp e2 h2 => ⟨l, p, xs, ys, rfl, rfl, e2 l _ (e1 l _ hl), h2, sz_of hz, k H2 (e1.trans e2)⟩⟩
theorem q_ext {l : Addr} {xs ys : List V} (hl : H l = some (.lst xs)) (ha : Ev ta σ H (.ref l)) (h : EvL te σ H ys) (hz : xs.length + ys.length ≤ 100000) (k : ∀ H1, Ex H H1 → tz D σ (upd H1 l (.lst (xs ++ ys)))) :
    tSeq (tDrop (tBM K "list" rExtend ta (tCons te tNil))) tz D σ H := s_ext (D := { D with nx := tz D }) hl ha h hz k
theorem q_forEnC {a : Addr} {xs : List V} {tl : TE} {c : Int} {i j : Nat} (h : Ev tl σ H (.ref a)) (hx : SqL K H a xs) (Pv : Nat → L2.St → Hp → Prop) (h0 : ∀ H1, Ex H H1 → Pv 0 σ H1) (hl : ∀ n σ' H', n ≤ xs.length → Pv n σ' H' → SqL K H' a xs)
    (hs : ∀ n x σ' H', xs[n]? = some x → Pv n σ' H' → ∀ H1, Ex H' H1 → tu { D with nx := Pv (n + 1), ct := Pv (n + 1), bk := tz D } ((σ'.set i (some (.int (c + (n : Nat))))).set j (some x)) H1) (hd : ∀ σ' H', Pv xs.length σ' H' → tz D σ' H') :
    tSeq (tFor (iEnumC K (tCons tl tNil) c) (g2 K i j) tu) tz D σ H := s_forEnC (D := { D with nx := tz D }) h hx Pv h0 hl hs hd

/-! ### more with a well -/
theorem ex_but {p : Addr} {H H1 H2 : Hp} (e : Ex H H1) (n : H p = none) (b : But p H1 H2) : Ex H H2 := fun c o h => b c o (ne_of_none h n) (e c o h)
theorem but_fresh {a p : Addr} {H H1 : Hp} {n : Nat} (b : But a H H1) (w : Well H a n) (w1 : Well H1 a n) (h : H1 p = none) : H p = none := by
  cases q : H p with
  | none => rfl
  | some o =>
    rw [b p o (w1.ne h) q] at h
    cases h
theorem but_free {a p : Addr} {H H1 : Hp} {m : Nat} (b : But a H H1) (w1 : Well H1 a m) (h : H1 p = none) : H p = none := b.free (w1.ne h) h
variable {a : Addr} {d d1 d2 n : Nat} {P P1 P2 : V → Prop} {ti tw : TE} {ts : TS}
theorem ew_min2 {P1 P2 P : Int → Prop} (h1 : EvW a d1 ta σ H (fun v => ∃ r, v = .int r ∧ P1 r)) (h2 : EvW a d2 tb σ H (fun v => ∃ r, v = .int r ∧ P2 r)) (h : ∀ x y, P1 x → P2 y → P (if y < x then y else x)) :
    EvW a (d1 + d2) (tCB (fun xs H Q => ∃ i j, xs = [.int i, .int j] ∧ Q (.int (if j < i then j else i)) H) (tCons ta (tCons tb tNil))) σ H (fun v => ∃ r, v = .int r ∧ P r) := fun n H1 b w l Q q =>
  h1 n H1 b w (by omega) _ fun x H2 b2 w2 ⟨i, ei, pi⟩ => h2 (n + d1) H2 (b.trans b2) w2 (by omega) _ fun y H3 b3 w3 ⟨j, ej, pj⟩ => by
    rw [Nat.add_assoc] at w3
    subst ei ej
    exact ⟨i, j, rfl, q _ H3 (b2.trans b3) w3 ⟨_, rfl, h i j pi pj⟩⟩
theorem sw_forR1 {P : Int → Prop} {j : Nat} (h : EvW a d te σ H (fun v => ∃ r, v = .int r ∧ P r)) (hP : ∀ r, P r → 0 ≤ r ∧ r ≤ 100000) (w : Well H a n) (l : n + d ≤ 2 ^ 50) (Pv : Nat → L2.St → Hp → Prop)
    (h0 : ∀ r H1, P r → But a H H1 → Well H1 a (n + d) → Pv 0 σ H1)
    (hs : ∀ r (i : Nat) σ' H', P r → (i : Int) < r → Pv i σ' H' → tu { D with nx := Pv (i + 1), ct := Pv (i + 1), bk := D.nx } (σ'.set j (some (.int (i : Int)))) H')
    (hd : ∀ r σ' H', P r → Pv r.toNat σ' H' → D.nx σ' H') : tFor (iRng1 (tCons te tNil)) (gName j) tu D σ H :=
  h n H (But.refl a H) w l _ fun v H2 b2 w2 ⟨r, er, pr⟩ => by
    subst er
    obtain ⟨r0, r1⟩ := hP r pr
    refine ⟨r, rfl, by omega, by omega, for_range (lo := 0) (n := r.toNat) Pv (h0 r H2 pr b2 w2) (fun i σ' H' hi p => ?_) (fun σ' H' p => hd r σ' H' pr p)⟩
    have e0 : (0 : Int) + (i : Int) = (i : Int) := Int.zero_add _
    show tu { D with nx := Pv (i + 1), ct := Pv (i + 1), bk := D.nx } (σ'.set j (some (.int ((0 : Int) + (i : Int))))) H'
    rw [e0]
    exact hs r i σ' H' pr (by omega) p
theorem qw_forR1 {P : Int → Prop} {j : Nat} (h : EvW a d te σ H (fun v => ∃ r, v = .int r ∧ P r)) (hP : ∀ r, P r → 0 ≤ r ∧ r ≤ 100000) (w : Well H a n) (l : n + d ≤ 2 ^ 50) (Pv : Nat → L2.St → Hp → Prop)
    (h0 : ∀ r H1, P r → But a H H1 → Well H1 a (n + d) → Pv 0 σ H1)
    (hs : ∀ r (i : Nat) σ' H', P r → (i : Int) < r → Pv i σ' H' → tu { D with nx := Pv (i + 1), ct := Pv (i + 1), bk := tz D } (σ'.set j (some (.int (i : Int)))) H')
    (hd : ∀ r σ' H', P r → Pv r.toNat σ' H' → tz D σ' H') : tSeq (tFor (iRng1 (tCons te tNil)) (gName j) tu) tz D σ H :=
  sw_forR1 (D := { D with nx := tz D }) h hP w l Pv h0 hs hd
/-- if draw.. or pure: .. -/
theorem qw_ifOr {b : Bool} (h : EvW a d te σ H (fun v => ∃ b, v = .bl b)) (hb : ∀ H1, But a H H1 → EvT u σ H1 b) (w : Well H a n) (l : n + d ≤ 2 ^ 50)
    (k1 : ∀ H1, But a H H1 → Well H1 a (n + d) → tu { D with nx := tz D } σ H1) (k2 : b = false → ∀ H1, But a H H1 → Well H1 a (n + d) → ts { D with nx := tz D } σ H1) : tSeq (tIfS (tOr (tTest te) u) tu ts) tz D σ H :=
  h n H (But.refl a H) w l _ fun v H2 b2 w2 ⟨c, e⟩ => ⟨c, e, by
    cases c with
    | true => exact iteT (iteT (k1 H2 b2 w2))
    | false =>
      refine iteF ?_
      refine hb H2 b2 H2 (Ex.refl H2) _ fun H3 e3 => ?_
      cases b with
      | true => exact iteT (k1 H3 (b2.trans (But.ex e3)) (w2.ex e3))
      | false => exact iteF (k2 rfl H3 (b2.trans (But.ex e3)) (w2.ex e3))⟩
theorem cut_take (xs : List V) (m : Nat) : cutV xs none (some (m : Int)) = xs.take m := by
  unfold cutV
  rw [HT.sIx_none, HT.sIx_nat, List.drop_zero, Nat.sub_zero]
  by_cases h : m ≤ xs.length
  · rw [Nat.min_eq_left h]
  · rw [Nat.min_eq_right (by omega), List.take_of_length_le (Nat.le_refl _), List.take_of_length_le (by omega)]
theorem flat_rep (n : Nat) (x : Int) : (List.replicate n [V.int x]).flatten = vi (List.replicate n x) := by
  unfold vi
  rw [List.map_replicate, List.flatten_replicate_singleton]
theorem el_slN {tl th : TO} {xs : List V} {lo hi : Option Int} (h : EvL te σ H xs) (h1 : EvO tl σ H lo) (h2 : EvO th σ H hi) : EvL (tSl (rSlL K) te tl th) σ H (cutV xs lo hi) := fun H1 e _ q =>
  h H1 e _ fun a H2 ha e2 hx => h1 H2 (e.trans e2) _ fun H3 e3 => h2 H3 ((e.trans e2).trans e3) _ fun H4 e4 =>
    ⟨a, xs, rfl, sq_of (e4 _ _ (e3 _ _ hx)), fun p hp => q p _ (fresh_back ((e2.trans e3).trans e4) hp) (((e2.trans e3).trans e4).trans (Ex.new hp)) upd_same⟩
theorem sw_asgL {P : List V → Prop} {i : Nat} (h : EvWL a d te σ H P) (w : Well H a n) (l : n + d ≤ 2 ^ 50) (k : ∀ p xs H1, H p = none → But a H H1 → Well H1 a (n + d) → H1 p = some (.lst xs) → P xs → D.nx (σ.set i (some (.ref p))) H1) : tAsg te (gName i) D σ H :=
  h n H (But.refl a H) w l _ fun p xs H2 hp b2 w2 h2 p => k _ xs H2 hp b2 w2 h2 p
theorem qw_asgL {P : List V → Prop} {i : Nat} (h : EvWL a d te σ H P) (w : Well H a n) (l : n + d ≤ 2 ^ 50) (k : ∀ p xs H1, H p = none → But a H H1 → Well H1 a (n + d) → H1 p = some (.lst xs) → P xs → tz D (σ.set i (some (.ref p))) H1) : tSeq (tAsg te (gName i)) tz D σ H :=
  sw_asgL (D := { D with nx := tz D }) h w l k
/-- x, y = a, b -/
theorem q_parLU {i j : Nat} {xs ys : List V} (h1 : EvL ta σ H xs) (h2 : ∀ p H1, H p = none → Ex H H1 → H1 p = some (.lst xs) → EvU tb σ H1 ys) (k : ∀ p q H1, H p = none → H q = none → p ≠ q → Ex H H1 → H1 p = some (.lst xs) → H1 q = some (.tup ys) → tz D ((σ.set i (some (.ref p))).set j (some (.ref q))) H1) :
    tSeq (tPar i j (tCons ta (tCons tb tNil))) tz D σ H :=
  h1 H (Ex.refl H) _ fun p H2 hp e2 g2 => h2 p H2 hp e2 g2 H2 (Ex.refl H2) _ fun q H3 hq e3 g3 => ⟨_, _, rfl, k p q H3 hp (fresh_back e2 hq) (ne_of_none g2 hq) (e2.trans e3) (e3 _ _ g2) g3⟩
theorem q_parLL {i j : Nat} {xs ys : List V} (h1 : EvL ta σ H xs) (h2 : ∀ p H1, H p = none → Ex H H1 → H1 p = some (.lst xs) → EvL tb σ H1 ys) (k : ∀ p q H1, H p = none → H q = none → p ≠ q → Ex H H1 → H1 p = some (.lst xs) → H1 q = some (.lst ys) → tz D ((σ.set i (some (.ref p))).set j (some (.ref q))) H1) :
    tSeq (tPar i j (tCons ta (tCons tb tNil))) tz D σ H :=
  h1 H (Ex.refl H) _ fun p H2 hp e2 g2 => h2 p H2 hp e2 g2 H2 (Ex.refl H2) _ fun q H3 hq e3 g3 => ⟨_, _, rfl, k p q H3 hp (fresh_back e2 hq) (ne_of_none g2 hq) (e2.trans e3) (e3 _ _ g2) g3⟩
theorem q_parVV {i j : Nat} {x y : V} (h1 : Ev ta σ H x) (h2 : Ev tb σ H y) (k : ∀ H1, Ex H H1 → tz D ((σ.set i (some x)).set j (some y)) H1) :
    tSeq (tPar i j (tCons ta (tCons tb tNil))) tz D σ H :=
  h1 H (Ex.refl H) _ fun H2 e2 => h2 H2 e2 _ fun H3 e3 => ⟨_, _, rfl, k H3 (e2.trans e3)⟩
theorem q_parLV {i j : Nat} {xs : List V} {y : V} (h1 : EvL ta σ H xs) (h2 : ∀ p H1, H p = none → Ex H H1 → H1 p = some (.lst xs) → Ev tb σ H1 y) (k : ∀ p H1, H p = none → Ex H H1 → H1 p = some (.lst xs) → tz D ((σ.set i (some (.ref p))).set j (some y)) H1) :
    tSeq (tPar i j (tCons ta (tCons tb tNil))) tz D σ H :=
  h1 H (Ex.refl H) _ fun p H2 hp e2 g2 => h2 p H2 hp e2 g2 H2 (Ex.refl H2) _ fun H3 e3 => ⟨_, _, rfl, k p H3 hp (e2.trans e3) (e3 _ _ g2)⟩
theorem q_parVL {i j : Nat} {xs : List V} {y : V} (h1 : Ev ta σ H y) (h2 : EvL tb σ H xs) (k : ∀ p H1, H p = none → Ex H H1 → H1 p = some (.lst xs) → tz D ((σ.set i (some y)).set j (some (.ref p))) H1) :
    tSeq (tPar i j (tCons ta (tCons tb tNil))) tz D σ H :=
  h1 H (Ex.refl H) _ fun H2 e2 => h2 H2 e2 _ fun p H3 hp e3 g3 => ⟨_, _, rfl, k p H3 (fresh_back e2 hp) (e2.trans e3) g3⟩
end
end Bk
/-! ### sorted of a tuple of ints -/
namespace Bk
open PySem PySem.Spec PyProof.Rows L2 Evl
section
variable {prog : Program} {w : World} {A : Around} {E : Value → Shared → Prop} {s : Shared}
theorem collect_tup {l : Addr} {vs : List Value} {Q : List Value → Shared → Prop} (ht : IsTup s.heap l vs.toArray) (hz : vs.length ≤ sizeLine)
    (h : Q vs { s with heap := (s.heap.push (seqObj "list" #[] 0)).update s.heap.objs.size (Obj.mapSeq (· ++ vs.toArray)) }) : wpAny (model prog w) A (collect (.ref l)) Q E s := by
  obtain ⟨o, ho, hc, n, hd⟩ := ht
  unfold collect
  refine wpAny_bind (wpAny_runValue (codeAny_builtin entry_proto_collect' ?_))
  show wpAny _ _ (newList [] >>= fun r => again (.builtin "list.__iadd__" ⟨[r, .ref l], []⟩)) _ _ s
  refine wpAny_bind (wpAny_newList (wpAny_pure ⟨Code.quiet_builtin _ (by decide +kernel), codeAny_builtin entry_list_iadd' ?_⟩))
  show wpAny _ _ (Builtin.List.listExtendWith (.ref s.heap.objs.size) (.ref l) (.ref s.heap.objs.size)) _ _ { s with heap := s.heap.push (seqObj "list" #[] 0) }
  unfold Builtin.List.listExtendWith
  have ho1 : (s.heap.push (seqObj "list" #[] 0)).get? l = some o := Heap.get?_push_of_some _ ho
  refine wpAny_bind (wpAny_typeOf (T := "tuple") ⟨o, ho1, hc⟩ ?_)
  have e1 : (Value.type "tuple" == Value.type "tuple") = true := by rfl
  rw [if_pos (by rw [e1]; simp)]
  refine wpAny_bind (listItems_at ho1 hd ?_)
  refine wpAny_bind (listItems_at (xs := #[]) (n := 0) (Heap.get?_push_size _ rfl) rfl ?_)
  rw [if_neg (by simp)]
  refine wpAny_bind (listUpdate_at (xs := #[]) (n := 0) (Heap.get?_push_size _ rfl) rfl ?_ (Nat.zero_le _) (by
    show (#[] ++ vs.toArray).size ≤ sizeLine + 1
    simp only [Array.size_append, List.size_toArray, List.length_nil]
    omega))
  refine wpAny_pure ?_
  refine wpAny_bind (wpAny_load (get?_update_seq (Heap.get?_push_size _ rfl) _) ?_)
  have e2 : ((#[] : Array Value) ++ vs.toArray).toList = vs := by simp
  show wpAny _ _ (pure ((#[] : Array Value) ++ vs.toArray).toList) Q E _
  rw [e2]
  exact wpAny_pure h
/-- behind the collecting: the new list is sorted -/
theorem sorted_tup {l : Addr} {vs : List Value} {ns : List Int} {Q : Value → Shared → Prop} (ht : IsTup s.heap l vs.toArray) (hz : vs.length ≤ sizeLine) (hI : IntsAre vs ns)
    (h : ∀ out : List Value, IntsAre out (out.map SrtO.iv) → (out.map SrtO.iv).Perm ns → (out.map SrtO.iv).Pairwise (· ≤ ·) → Q (.ref (s.heap.objs.size + 1)) { s with heap := sortedAll s.heap vs out.toArray }) :
    wpAny (model prog w) A (call (.builtin "sorted") [.ref l]) Q E s := by
  refine Calls.call_function_entry kind_sorted plain_sorted entry_sorted (args_sorted1 _) ?_
  unfold Builtin.«sorted»
  refine wpAny_bind (m := checkCount "sorted" 1 1 _) (wpAny_pure ?_)
  refine wpAny_bind (collect_tup ht hz ?_)
  refine wpAny_bind (wpAny_newList ?_ hz)
  have es : ((s.heap.push (seqObj "list" #[] 0)).update s.heap.objs.size (Obj.mapSeq (· ++ vs.toArray))).objs.size = s.heap.objs.size + 1 := by
    rw [Heap.size_update, size_push']
  have at1 : (((s.heap.push (seqObj "list" #[] 0)).update s.heap.objs.size (Obj.mapSeq (· ++ vs.toArray))).push (seqObj "list" vs.toArray 0)).get? (s.heap.objs.size + 1) = some (seqObj "list" vs.toArray 0) := by
    rw [← es]
    exact Heap.get?_push_size _ rfl
  show wpAny _ _ _ _ _ { s with heap := ((s.heap.push (seqObj "list" #[] 0)).update s.heap.objs.size (Obj.mapSeq (· ++ vs.toArray))).push (seqObj "list" vs.toArray 0) }
  rw [es]
  refine wpAny_bind (wpAny_holding (wpAny_call_entry slot_list_sort ⟨_, at1, rfl⟩ entry_list_sort (SrtO.list_sort_ord SrtO.swo_int at1 hz (fun h2 => SrtO.ints_sortable hI h2) fun out hs hb => ⟨_, rfl, ?_⟩) (args_list_sort _)))
  obtain ⟨k1, k2, k3⟩ := SrtO.ints_out hI hs hb
  exact wpAny_pure ⟨_, rfl, h out k1 k2 k3⟩
end
def rSortedT (K : PySem.W.Frag) : List V → Hp → VK → Prop := fun vs H Q => ∃ (a : Addr) (ns : List Int), vs = [V.ref a] ∧ SqT K H a (vi ns) ∧
  ∀ (ns' : List Int) (p : Addr), ns'.Perm ns → ns'.Pairwise (· ≤ ·) → H p = none → Q (.ref p) (upd H p (.lst (vi ns')))
theorem cr_sortedTup {X : Cx} : CallR X (.builtin "sorted") (rSortedT X.K) := by
  intro pins s σ H vs us Q I r h
  obtain ⟨a, ns, rfl, hs, q⟩ := h
  obtain ⟨its, rv, ht, hz⟩ := I.tuple hs
  rw [Vals.ref1 r]
  have hi := rv.ints
  refine sorted_tup ht (by rw [← rv.length]; exact hz) hi ?_
  intro out k1 k2 k3
  obtain ⟨ep, he'⟩ := PyProof.Rows.sortedAll_at s.heap its out.toArray
  have hlen : (vi (out.map SrtO.iv)).length ≤ sizeLine := by
    rw [List.length_map] at hz
    rw [List.length_map, k2.length_eq]
    exact hz
  exact ⟨.ref _, upd H (s.heap.objs.size + 1) (.lst (vi (out.map SrtO.iv))), I.laid (t' := s.toks) (fun _ _ => PyProof.Rows.sortedAll_old) (Nat.le_succ _) ⟨hlen, out, ep, vals_of_ints k1, he'⟩, rfl, q _ _ k2 k3 (I.hok.fresh (Nat.le_succ _))⟩

/-- the one sorted list -/
theorem sorted_unique {ns ms : List Int} (hp : ns.Perm ms) (h1 : ns.Pairwise (· ≤ ·)) (h2 : ms.Pairwise (· ≤ ·)) : ns = ms := by
  induction ns generalizing ms with
  | nil => exact (List.nil_perm.mp hp).symm
  | cons a r ih =>
    cases ms with
    | nil => exact absurd hp.length_eq (by simp)
    | cons b q =>
      have ha := List.pairwise_cons.mp h1
      have hb := List.pairwise_cons.mp h2
      have e : a = b := by
        have m1 : a ∈ b :: q := hp.mem_iff.mp List.mem_cons_self
        have m2 : b ∈ a :: r := hp.mem_iff.mpr List.mem_cons_self
        have l1 : b ≤ a := by
          rcases List.mem_cons.mp m1 with z | z
          · omega
          · exact hb.1 a z
        have l2 : a ≤ b := by
          rcases List.mem_cons.mp m2 with z | z
          · omega
          · exact ha.1 b z
        omega
      subst e
      rw [ih (List.Perm.cons_inv hp) ha.2 hb.2]

section
variable {K : PySem.W.Frag} {σ : L2.St} {H H' : Hp} {ta tb te tl : TE} {t u : TT} {x y z v : V} {D : Ends} {tu tz : TS}
theorem el_sortedT {p : Addr} {ns ms : List Int} (ha : Ev ta σ H (.ref p)) (h : SqT K H p (vi ns)) (hp : ns.Perm ms) (hm : ms.Pairwise (· ≤ ·)) : EvL (tCB (rSortedT K) (tCons ta tNil)) σ H (vi ms) := fun H1 e Q q =>
  ha H1 e _ fun H2 e2 => ⟨p, ns, rfl, ex_t (e.trans e2) h, fun ns' l k1 k2 hl => by
    rw [sorted_unique (k1.trans hp) k2 hm]
    exact q l _ (fresh_back e2 hl) (e2.trans (Ex.new hl)) upd_same⟩
theorem el_sortedN {ns ms : List Int} (ha : EvL ta σ H (vi ns)) (hp : ns.Perm ms) (hm : ms.Pairwise (· ≤ ·)) : EvL (tCB (rSortedI K) (tCons ta tNil)) σ H (vi ms) := fun H1 e Q q =>
  ha H1 e _ fun p H2 hp2 e2 h2 => ⟨p, ns, rfl, sq_of h2, fun ns' l k1 k2 hl => by
    rw [sorted_unique (k1.trans hp) k2 hm]
    exact q l _ (fresh_back e2 hl) (e2.trans (Ex.new hl)) upd_same⟩
/-- all(..) of a new list of truths -/
theorem ev_allN {bs : List Bool} (ha : EvL ta σ H (bs.map V.bl)) : Ev (tCB (rAll K) (tCons ta tNil)) σ H (.bl (bs.all id)) := fun H1 e Q q =>
  ha H1 e _ fun p H2 hp2 e2 h2 => ⟨p, bs, rfl, sq_of h2, q H2 e2⟩
/-- a comprehension over a tuple -/
theorem el_lcT {a : Addr} {xs : List V} {j : Nat} {vs : List Nat} (f : Nat → Bool) (v : Nat → V) (h : Ev tl σ H (.ref a)) (hx : SqT K H a xs) (hz : xs.length ≤ 40000) (hw : ∀ x, wipe ((wipe σ vs).set j (some x)) vs = wipe σ vs)
    (ht : ∀ (i : Nat) (x : V) H1, Ex H H1 → xs[i]? = some x → EvT t ((wipe σ vs).set j (some x)) H1 (f i)) (he : ∀ (i : Nat) (x : V) H1, Ex H H1 → xs[i]? = some x → f i = true → Ev te ((wipe σ vs).set j (some x)) H1 (v i)) :
    EvL (tLc (iTup K tl) (gName j) t te vs) σ H (given xs.length f v) := fun H0 e Q q => h H0 e _ fun H1 e1 => ⟨a, rfl, ⟨xs, ex_t (e.trans e1) hx⟩, fun Dl hD =>
  lc_tup (xs := xs) (Cw H1 f v Dl) ⟨hD, Ex.new hD, upd_same⟩ (fun i H' _ p => ex_t ((e.trans e1).trans p.2.1) hx) (fun i x H' hi p => ⟨hw x, cw_turn p (by have := (List.getElem?_eq_some_iff.mp hi).1; omega) (ht i x H1 (e.trans e1) hi) (fun hf => he i x H1 (e.trans e1) hi hf)⟩)
    (fun H' p => q Dl H' (fresh_back e1 p.1) (e1.trans p.2.1) p.2.2)⟩
theorem rv_neLN {p q : Addr} {ns ms : List Int} (h : H p = some (.lst (vi ns))) (h' : H q = some (.lst (vi ms))) : RV (rNeD K) (.ref p) (.ref q) H (.bl (!decide (ns = ms))) := rv_neL (sq_of h) (sq_of h')
/-- both operands new -/
theorem ev_neLL {ns ms : List Int} (ha : EvL ta σ H (vi ns)) (hb : EvL tb σ H (vi ms)) : Ev (tOp (rNeD K) ta tb) σ H (.bl (!decide (ns = ms))) :=
  ev_opLL ha hb fun p q H1 hp hq _ => rv_neLN hp hq
theorem ev_eqLL {ns ms : List Int} (ha : EvL ta σ H (vi ns)) (hb : EvL tb σ H (vi ms)) : Ev (tOp (rEqD K) ta tb) σ H (.bl (decide (ns = ms))) :=
  ev_opLL ha hb fun p q H1 hp hq _ => rv_eqL (sq_of hp) (sq_of hq)
/-! shuffles -/
def iota (n : Nat) : List Int := (List.range n).map fun i : Nat => (i : Int)
theorem iota_length (n : Nat) : (iota n).length = n := by simp [iota]
theorem iota_sorted (n : Nat) : (iota n).Pairwise (· ≤ ·) := by
  unfold iota
  rw [List.pairwise_map]
  exact (List.pairwise_lt_range (n := n)).imp fun h => by omega
theorem rgV_iota (n : Nat) : rgV 0 (n : Int) = vi (iota n) := by
  unfold rgV iota vi
  rw [List.map_map]
  have e : ((n : Int) - 0).toNat = n := by omega
  rw [e]
  refine List.map_congr_left fun i _ => ?_
  show V.int (0 + (i : Int)) = V.int (i : Int)
  rw [Int.zero_add]
def Shf (ns : List Int) : Prop := 0 < ns.length ∧ ns.length ≤ 300 ∧ ns.Perm (iota ns.length)
theorem Shf.mem {ns : List Int} (h : Shf ns) {n : Int} (m : n ∈ ns) : 0 ≤ n ∧ n < ns.length := by
  have := h.2.2.mem_iff.mp m
  obtain ⟨i, hi, rfl⟩ := List.mem_map.mp this
  have := List.mem_range.mp hi
  omega
theorem Shf.nodup {ns : List Int} (h : Shf ns) : ns.Nodup := by
  refine h.2.2.symm.nodup ?_
  unfold iota
  show List.Pairwise _ _
  rw [List.pairwise_map]
  exact (List.nodup_range (n := ns.length)).imp fun h e => h (by omega)
theorem Shf.wide {ns : List Int} (h : Shf ns) : wide 1900 ns := (wide_lt (k := 20) (by decide) fun n m => by
  have := h.mem m
  have := h.2.1
  omega).mono (by decide)

theorem vi_erase (ns : List Int) (k : Nat) : (vi ns).eraseIdx k = vi (ns.eraseIdx k) := by
  unfold vi
  induction ns generalizing k with
  | nil => rfl
  | cons a r ih =>
    cases k with
    | zero => rfl
    | succ k =>
      show V.int a :: (r.map V.int).eraseIdx k = V.int a :: (r.eraseIdx k).map V.int
      rw [ih]
theorem vi_set (ns : List Int) (k : Nat) (x : Int) : (vi ns).set k (.int x) = vi (ns.set k x) := by
  unfold vi
  rw [List.map_set]
theorem vi_app (ns ms : List Int) : vi ns ++ vi ms = vi (ns ++ ms) := by
  unfold vi
  rw [List.map_append]
/-- a new tuple, with draws -/
def EvWU (a : Addr) (d : Nat) (te : TE) (σ : L2.St) (H : Hp) (P : List V → Prop) : Prop := ∀ (n : Nat) (H1 : Hp), But a H H1 → Well H1 a n → n + d ≤ 2 ^ 50 → ∀ Q : VK, (∀ p xs H2, H1 p = none → But a H1 H2 → Well H2 a (n + d) → H2 p = some (.tup xs) → P xs → Q (.ref p) H2) → te σ H1 Q
variable {a : Addr} {d d1 d2 n : Nat} {P P1 : List V → Prop}
theorem sw_asgU {i : Nat} (h : EvWU a d te σ H P) (w : Well H a n) (l : n + d ≤ 2 ^ 50) (k : ∀ p xs H1, H p = none → But a H H1 → Well H1 a (n + d) → H1 p = some (.tup xs) → P xs → D.nx (σ.set i (some (.ref p))) H1) : tAsg te (gName i) D σ H :=
  h n H (But.refl a H) w l _ fun p xs H2 hp b2 w2 h2 p => k _ xs H2 hp b2 w2 h2 p
theorem qw_asgU {i : Nat} (h : EvWU a d te σ H P) (w : Well H a n) (l : n + d ≤ 2 ^ 50) (k : ∀ p xs H1, H p = none → But a H H1 → Well H1 a (n + d) → H1 p = some (.tup xs) → P xs → tz D (σ.set i (some (.ref p))) H1) : tSeq (tAsg te (gName i)) tz D σ H :=
  sw_asgU (D := { D with nx := tz D }) h w l k
theorem sw_retU (h : EvWU a d te σ H P) (w : Well H a n) (l : n + d ≤ 2 ^ 50) (k : ∀ p xs H1, H p = none → But a H H1 → Well H1 a (n + d) → H1 p = some (.tup xs) → P xs → D.rt (.ref p) H1) : tRet te D σ H :=
  h n H (But.refl a H) w l _ fun p xs H2 hp b2 w2 h2 p => k _ xs H2 hp b2 w2 h2 p
/-! ### [e for x in xs for y in ys] of tuples -/
def flat2 (n m : Nat) (v : Nat → Nat → V) : List V := (List.range n).flatMap fun i => (List.range m).map (v i)
theorem flat2_succ (n m : Nat) (v : Nat → Nat → V) : flat2 (n + 1) m v = flat2 n m v ++ (List.range m).map (v n) := by
  unfold flat2
  rw [List.range_succ, List.flatMap_append, List.flatMap_singleton]
theorem flat2_length (n m : Nat) (v : Nat → Nat → V) : (flat2 n m v).length = n * m := by
  induction n with
  | zero => simp [flat2]
  | succ n ih => rw [flat2_succ, List.length_append, ih, List.length_map, List.length_range, Nat.succ_mul]
theorem yes_go {A B : Hp → Prop} (h : A H) : tYes σ H (fun b H3 => if b = true then A H3 else B H3) := by
  show (if true = true then A H else B H)
  rw [if_pos rfl]
  exact h
theorem el_lc2T {ti1 : TE} {b1 b2 : Addr} {xs ys : List V} {i j : Nat} {vs vs1 : List Nat} (v : Nat → Nat → V) (h : Ev tl σ H (.ref b1)) (hx : SqT K H b1 xs) (hy : SqT K H b2 ys)
    (h1 : ∀ x H1, Ex H H1 → Ev ti1 ((wipe σ vs).set i (some x)) H1 (.ref b2)) (hz : xs.length * ys.length ≤ 40000)
    (hw : ∀ x, wipe ((wipe σ vs).set i (some x)) vs = wipe σ vs) (hw1 : ∀ x y, wipe ((wipe ((wipe σ vs).set i (some x)) vs1).set j (some y)) vs1 = wipe ((wipe σ vs).set i (some x)) vs1)
    (he : ∀ (n m : Nat) (x y : V) H1, Ex H H1 → xs[n]? = some x → ys[m]? = some y → Ev te ((wipe ((wipe σ vs).set i (some x)) vs1).set j (some y)) H1 (v n m)) :
    EvL (tLc2 (iTup K tl) (gName i) tYes (iTup K ti1) (gName j) tYes te vs vs1) σ H (flat2 xs.length ys.length v) := fun H0 e Q q => h H0 e _ fun H1 e1 => by
  have e01 := e.trans e1
  refine ⟨b1, rfl, ⟨xs, ex_t e01 hx⟩, fun Dl hD => ?_⟩
  refine ⟨fun n m H => m = xs.length - n ∧ n ≤ xs.length ∧ Ex H1 H ∧ H Dl = some (.lst (flat2 n ys.length v)), ⟨xs.length, by simp, Nat.zero_le _, Ex.new hD, upd_same⟩, ?_⟩
  rintro n m H ⟨rfl, hn, e2, hd⟩
  have qx := ex_t (e01.trans e2) hx
  by_cases hlt : n < xs.length
  · refine .inr ⟨⟨xs, xs[n], qx, by simp [hlt]⟩, fun H' => Ex H1 H' ∧ H' Dl = some (.lst (flat2 (n + 1) ys.length v)), fun H' p' => ⟨xs.length - (n + 1), by omega, rfl, hlt, p'⟩, ?_⟩
    rintro x H' ⟨rfl, gx⟩
    have hxn := gx xs qx
    refine ⟨hw x, yes_go ?_⟩
    refine h1 x H' (e01.trans e2) H' (Ex.refl H') _ fun H4 e4 => ⟨b2, rfl, ⟨ys, ex_t ((e01.trans e2).trans e4) hy⟩, ?_⟩
    refine ⟨fun k m H => m = ys.length - k ∧ k ≤ ys.length ∧ Ex H1 H ∧ H Dl = some (.lst (flat2 n ys.length v ++ (List.range k).map (v n))), ⟨ys.length, by simp, Nat.zero_le _, e2.trans e4, by rw [e4 _ _ hd]; simp⟩, ?_⟩
    rintro k m H ⟨rfl, hk, e5, hd5⟩
    have qy := ex_t (e01.trans e5) hy
    by_cases hlk : k < ys.length
    · refine .inr ⟨⟨ys, ys[k], qy, by simp [hlk]⟩, fun H' => Ex H1 H' ∧ H' Dl = some (.lst (flat2 n ys.length v ++ (List.range (k + 1)).map (v n))), fun H' p' => ⟨ys.length - (k + 1), by omega, rfl, hlk, p'⟩, ?_⟩
      rintro y H' ⟨rfl, gy⟩
      refine ⟨hw1 x y, yes_go ?_⟩
      refine he n k x y H' (e01.trans e5) hxn (gy ys qy) H' (Ex.refl H') _ fun H6 e6 => ⟨_, e6 _ _ hd5, sz_lt ?_, Ex.mut (e5.trans e6) hD, ?_⟩
      · rw [List.length_append, flat2_length, List.length_map, List.length_range]
        have a1 : (n + 1) * ys.length ≤ xs.length * ys.length := Nat.mul_le_mul_right _ hlt
        rw [Nat.succ_mul] at a1
        omega
      · rw [upd_same, List.range_succ, List.map_append, List.append_assoc]
        rfl
    · have ek : k = ys.length := by omega
      subst ek
      refine .inl ⟨⟨ys, qy, Nat.le_refl _⟩, e5, ?_⟩
      rw [hd5, flat2_succ]
  · have en : n = xs.length := by omega
    subst en
    exact .inl ⟨⟨xs, qx, Nat.le_refl _⟩, q Dl H (fresh_back e1 hD) (e1.trans e2) hd⟩
/-- a new tuple as an argument -/
theorem eu_callU1 {sp : Sp} {xs zs : List V} {E : XK} (h : EvU ta σ H xs) (h2 : ∀ p H1, Ex H H1 → H1 p = some (.tup xs) → Ev tb σ H1 y) (hs : ∀ p H1, Ex H H1 → H1 p = some (.tup xs) → SpU sp [.ref p, y] H1 zs) : EvU (tCall sp [] E (tCons ta (tCons tb tNil))) σ H zs := fun H1 e Q q =>
  h H1 e _ fun p H2 hp e2 g2 => h2 p H2 (e.trans e2) g2 H2 (Ex.refl H2) _ fun H3 e3 => hs p H3 ((e.trans e2).trans e3) (e3 _ _ g2) H3 (Ex.refl H3) Q (fun r H4 hr e4 h4 => q r H4 (fresh_back (e2.trans e3) hr) ((e2.trans e3).trans e4) h4) E
theorem eu_callU2 {sp : Sp} {xs zs : List V} {E : XK} (h : Ev ta σ H x) (h2 : EvU tb σ H xs) (hs : ∀ p H1, Ex H H1 → H1 p = some (.tup xs) → SpU sp [x, .ref p] H1 zs) : EvU (tCall sp [] E (tCons ta (tCons tb tNil))) σ H zs := fun H1 e Q q =>
  h H1 e _ fun H2 e2 => h2 H2 (e.trans e2) _ fun p H3 hp e3 g3 => hs p H3 ((e.trans e2).trans e3) g3 H3 (Ex.refl H3) Q (fun r H4 hr e4 h4 => q r H4 (fresh_back (e2.trans e3) hr) ((e2.trans e3).trans e4) h4) E
end
end Bk
namespace Bk
open PySem PySem.Spec PyProof.Rows L2 Evl
/-! ### where built-in names stand; rules with the written part named -/
theorem bt_len : bootBuiltins "len" = some (.builtin "len") := by decide +kernel
theorem bt_abs : bootBuiltins "abs" = some (.builtin "abs") := by decide +kernel
theorem bt_max : bootBuiltins "max" = some (.builtin "max") := by decide +kernel
theorem bt_min : bootBuiltins "min" = some (.builtin "min") := by decide +kernel
theorem bt_sum : bootBuiltins "sum" = some (.builtin "sum") := by decide +kernel
theorem bt_sorted : bootBuiltins "sorted" = some (.builtin "sorted") := by decide +kernel
theorem bt_all : bootBuiltins "all" = some (.builtin "all") := by decide +kernel
theorem bt_any : bootBuiltins "any" = some (.builtin "any") := by decide +kernel
theorem bt_repr : bootBuiltins "repr" = some (.builtin "repr") := by decide +kernel
theorem bt_isinstance : bootBuiltins "isinstance" = some (.builtin "isinstance") := by decide +kernel
theorem bt_str : bootBuiltins "str" = some (.type "str") := by decide +kernel
section
variable {X : Cx} {K : PySem.W.Frag}
theorem call_lenK (h : X.K = K) : CallR X (.builtin "len") (rLenS K) := by
  subst h
  exact call_len_seq
theorem cr_sumK (h : X.K = K) (hc : X.calm = true) : CallR X (.builtin "sum") (rSum K) := by
  subst h
  exact cr_sum hc
theorem cr_allK (h : X.K = K) (hc : X.calm = true) : CallR X (.builtin "all") (rAll K) := by
  subst h
  exact cr_all hc
theorem call_listK (h : X.K = K) : CallR X (.type "list") (fun xs H Q => ∃ p ys, xs = [.ref p] ∧ (SqL K H p ys ∨ SqT K H p ys) ∧ ∀ l, H l = none → Q (.ref l) (upd H l (.lst ys))) := by
  subst h
  exact call_list_of
theorem call_tupleK (h : X.K = K) : CallR X (.type "tuple") (rTupOf K) := by
  subst h
  exact call_tuple_of
theorem call_reprK (h : X.K = K) (hg : X.A.guards = some []) (hu : X.A.units + 64 < cLine) : CallR X (.builtin "repr") (rRepr K) := by
  subst h
  exact call_repr hg hu
theorem call_isiK' (h : X.K = K) : CallR X (.builtin "isinstance") (rIsi K) := by
  subst h
  exact call_isi
theorem ix_listK (h : X.K = K) : IxR X (rIxL K) := by
  subst h
  exact ix_list
theorem ix_tupK (h : X.K = K) : IxR X (rIxT K) := by
  subst h
  exact ix_tup
theorem sl_listK (h : X.K = K) : SlR X (rSlL K) := by
  subst h
  exact sl_list
theorem op_eqDK (h : X.K = K) (hu : X.A.units + 64 < cLine) : OpR X (compareOp .Eq) (rEqD K) := by
  subst h
  exact op_eqD hu
theorem op_neDK (h : X.K = K) (hu : X.A.units + 64 < cLine) : OpR X (compareOp .NotEq) (rNeD K) := by
  subst h
  exact op_neD hu
theorem pi_listK {tg e : Expr} {te : TE} (h : X.K = K) (he : PE X e te) : PI X tg e (iList K te) := by
  subst h
  exact pi_list he
theorem pi_tupK {tg e : Expr} {te : TE} (h : X.K = K) (he : PE X e te) : PI X tg e (iTup K te) := by
  subst h
  exact pi_tup he
end
end Bk
namespace Bk
open PySem PySem.Spec PyProof.Rows L2 Evl
/-! ### a list of the numbers below its length, each once -/
theorem len_le {n : Nat} : ∀ {l : List Int}, l.Nodup → (∀ x ∈ l, 0 ≤ x ∧ x < n) → l.length ≤ n := by
  induction n with
  | zero =>
    intro l _ h
    cases l with
    | nil => exact Nat.le_refl _
    | cons a r =>
      have := h a List.mem_cons_self
      omega
  | succ n ih =>
    intro l hn h
    have h1 := ih (l := l.erase (n : Int)) (hn.erase _) fun x hx => by
      have m := hn.mem_erase_iff.mp hx
      have := h x m.2
      have := m.1
      omega
    rw [List.length_erase] at h1
    split at h1 <;> omega
theorem perm_iota {n : Nat} : ∀ {l : List Int}, l.Nodup → (∀ x ∈ l, 0 ≤ x ∧ x < n) → l.length = n → l.Perm (iota n) := by
  induction n with
  | zero =>
    intro l _ _ hl
    have : l = [] := List.length_eq_zero_iff.mp hl
    subst this
    exact List.Perm.refl _
  | succ n ih =>
    intro l hn h hl
    have hm : (n : Int) ∈ l := by
      refine Classical.byContradiction fun c => ?_
      have := len_le (n := n) hn fun x hx => by
        have := h x hx
        have : x ≠ (n : Int) := fun e => c (e ▸ hx)
        omega
      omega
    have p := List.perm_cons_erase hm
    have h1 := ih (l := l.erase (n : Int)) (hn.erase _) (fun x hx => by
      have m := hn.mem_erase_iff.mp hx
      have := h x m.2
      have := m.1
      omega) (by
      have := p.length_eq
      rw [List.length_cons] at this
      omega)
    have e : iota (n + 1) = iota n ++ [(n : Int)] := by
      unfold iota
      rw [List.range_succ, List.map_append]
      rfl
    rw [e]
    exact p.trans ((List.Perm.cons _ h1).trans (List.perm_append_comm (l₁ := [(n : Int)]) (l₂ := iota n)))
section
variable {K : PySem.W.Frag} {σ : L2.St} {H H' : Hp} {ta tb te tl ti : TE} {t u : TT} {x y z v : V} {D : Ends} {tu tz : TS} {a : Addr} {d d1 d2 n : Nat} {P P1 P2 : V → Prop}
/-- t + u of tuples -/
theorem eu_catT {p : Addr} {xs ys : List V} (ha : Ev ta σ H (.ref p)) (hb : EvU tb σ H ys) (h : SqT K H p xs) (h0 : xs ≠ []) (h1 : ys ≠ []) (hz : xs.length + ys.length ≤ 100000) : EvU (tOp (rCatT K) ta tb) σ H (xs ++ ys) := fun H1 e Q k =>
  ha H1 e _ fun H2 e2 => hb H2 (e.trans e2) _ fun r H3 hr e3 h3 => ⟨p, r, xs, ys, rfl, rfl, ex_t ((e.trans e2).trans e3) h, st_of h3, h0, sz_of hz, fun c => (h1 c).elim, fun _ l hl => k l _ (fresh_back (e2.trans e3) hl) ((e2.trans e3).trans (Ex.new hl)) upd_same⟩
theorem op_catTK {X : Cx} (h : X.K = K) : OpR X (binaryOp .Add) (rCatT K) := by
  subst h
  exact op_catT
/-! arguments with draws -/
def EvWA (a : Addr) (d : Nat) (te : TA) (σ : L2.St) (H : Hp) (P : List V → Prop) : Prop := ∀ (n : Nat) (H1 : Hp), But a H H1 → Well H1 a n → n + d ≤ 2 ^ 50 → ∀ Q : List V → Hp → Prop, (∀ vs H2, But a H1 H2 → Well H2 a (n + d) → P vs → Q vs H2) → te σ H1 Q
theorem ewa_nil : EvWA a 0 tNil σ H (fun vs => vs = []) := fun n H1 b w l Q q => q [] H1 (But.refl a H1) w rfl
theorem ewa_cons {tr : TA} {PL : List V → Prop} (h : EvW a d1 te σ H P) (hr : EvWA a d2 tr σ H PL) : EvWA a (d1 + d2) (tCons te tr) σ H (fun vs => ∃ x xs, vs = x :: xs ∧ P x ∧ PL xs) := fun n H1 b w l Q q =>
  h n H1 b w (by omega) _ fun x H2 b2 w2 px => hr (n + d1) H2 (b.trans b2) w2 (by omega) _ fun xs H3 b3 w3 pl => q _ H3 (b2.trans b3) (by
    rw [← Nat.add_assoc]
    exact w3) ⟨x, xs, rfl, px, pl⟩
theorem ewl_lst {t : TA} {PL : List V → Prop} (h : EvWA a d t σ H PL) (hz : ∀ xs, PL xs → xs.length ≤ 100000) : EvWL a d (tLst t) σ H PL := fun n H1 b w l Q q =>
  h n H1 b w l _ fun xs H2 b2 w2 pl => ⟨sz_of (hz xs pl), fun p hp => q p xs _ (but_free b2 w2 hp) (b2.trans (But.new hp)) (w2.ex (Ex.new hp)) upd_same pl⟩
theorem ew_ixW {PL : List V → Prop} (hl : EvWL a d1 tl σ H PL) (hi : EvW a d2 ti σ H P) (hP : ∀ xs v, PL xs → P v → ∃ (i : Int) (x : V), v = .int i ∧ atI xs i = some x ∧ P1 x) : EvW a (d1 + d2) (tOp (rIxL K) tl ti) σ H P1 := fun n H1 b w l Q q =>
  hl n H1 b w (by omega) _ fun p xs H2 hp b2 w2 h2 px => hi (n + d1) H2 (b.trans b2) w2 (by omega) _ fun v H3 b3 w3 pv => by
    obtain ⟨i, x, rfl, hx, px'⟩ := hP xs v px pv
    rw [Nat.add_assoc] at w3
    exact ⟨p, xs, i, x, rfl, rfl, sq_of (b3 p _ (w.ne hp) h2), hx, q x H3 (b2.trans b3) w3 px'⟩
theorem ew_weak (h : EvW a d te σ H P) (l : d ≤ d1) : EvW a d1 te σ H P := fun n H1 b w hl Q q => h n H1 b w (by omega) Q fun v H2 b2 w2 p => q v H2 b2 (w2.mono (by omega)) p
theorem ew_if {b : Bool} (ht : EvT t σ (hid a H) b) (h1 : b = true → EvW a d ta σ H P) (h2 : b = false → EvW a d tb σ H P) : EvW a d (tIf t ta tb) σ H P := fun n H1 bt w l Q q =>
  ht H1 (ex_hid bt) _ fun H2 e2 => by
    have q' : ∀ v H3, But a H2 H3 → Well H3 a (n + d) → P v → Q v H3 := fun v H3 b3 w3 p => q v H3 ((But.ex e2).trans b3) w3 p
    cases b with
    | true => exact iteT (h1 rfl n H2 (bt.trans (But.ex e2)) (w.ex e2) l Q q')
    | false => exact iteF (h2 rfl n H2 (bt.trans (But.ex e2)) (w.ex e2) l Q q')
/-! range(a, b, c) upwards -/
theorem RgC.up {j c : Int} (h0 : 0 ≤ j) (h1 : j ≤ 100000) (c0 : 0 < c) (c1 : c ≤ 100000) : ∃ n : Nat, RgC 0 j c n ∧ ∀ k : Nat, k < n → (k : Int) * c < j := by
  have hs : Builtin.Range.rangeSize 0 j c = (if 0 < j then (j - 0 - 1) / c + 1 else 0) := by
    unfold Builtin.Range.rangeSize
    rw [if_pos c0]
  have hd0 : 0 < j → 0 ≤ (j - 0 - 1) / c := fun h => Int.ediv_nonneg (by omega) (by omega)
  have hd1 : 0 < j → (j - 0 - 1) / c ≤ j - 0 - 1 := fun h => Int.ediv_le_self _ (by omega)
  refine ⟨(if 0 < j then (j - 0 - 1) / c + 1 else 0).toNat, ⟨by omega, by omega, ?_, ?_⟩, ?_⟩
  · unfold Builtin.Range.small
    rw [hs]
    simp only [Builtin.Range.rangeFitsLong, Bool.and_eq_true, Bool.or_eq_true, decide_eq_true_eq, beq_iff_eq, if_pos c0]
    by_cases hj : 0 < j
    · have := hd0 hj
      have := hd1 hj
      rw [if_pos hj]
      omega
    · rw [if_neg hj]
      omega
  · rw [hs, Int.toNat_of_nonneg]
    split
    · have := hd0 (by assumption)
      omega
    · omega
  · intro k hk
    by_cases hj : 0 < j
    · rw [if_pos hj] at hk
      have h2 : (k : Int) ≤ (j - 0 - 1) / c := by
        have := hd0 hj
        omega
      have := (Int.le_ediv_iff_mul_le c0).mp h2
      omega
    · rw [if_neg hj] at hk
      exact absurd hk (Nat.not_lt_zero _)
theorem q_forR3 {ta : TA} {i : Nat} {j c : Int} (h : EvA ta σ H [.int 0, .int j, .int c]) (h0 : 0 ≤ j) (h1 : j ≤ 100000) (c0 : 0 < c) (c1 : c ≤ 100000) (Pv : Nat → L2.St → Hp → Prop) (hp0 : ∀ H1, Ex H H1 → Pv 0 σ H1)
    (hs : ∀ (k : Nat) σ' H', (k : Int) * c < j → Pv k σ' H' → tu { D with nx := Pv (k + 1), ct := Pv (k + 1), bk := tz D } (σ'.set i (some (.int ((k : Int) * c)))) H') (hd : ∀ k σ' H', Pv k σ' H' → tz D σ' H') : tSeq (tFor (iRng3 ta) (gName i) tu) tz D σ H := by
  obtain ⟨n, hr, hn⟩ := RgC.up h0 h1 c0 c1
  refine h H (Ex.refl H) _ fun H1 e1 => ⟨0, j, c, n, rfl, hr, for_rangeC (lo := 0) (c := c) (n := n) Pv (hp0 H1 e1) (fun k σ' H' hk p => ?_) fun σ' H' p => hd n σ' H' p⟩
  have e0 : (0 : Int) + (k : Int) * c = (k : Int) * c := Int.zero_add _
  show tu { D with nx := Pv (k + 1), ct := Pv (k + 1), bk := tz D } (σ'.set i (some (.int ((0 : Int) + (k : Int) * c)))) H'
  rw [e0]
  exact hs k σ' H' (hn k hk) p
/-- three new tuples, drawn -/
theorem qw_par3U {i j l : Nat} {tc : TE} {d3 : Nat} {PA PB PC : List V → Prop} (h1 : EvWU a d1 ta σ H PA) (h2 : EvWU a d2 tb σ H PB) (h3 : EvWU a d3 tc σ H PC) (w : Well H a n) (hl : n + (d1 + d2 + d3) ≤ 2 ^ 50)
    (k : ∀ p q r xs ys zs H1, H p = none → H q = none → H r = none → But a H H1 → Well H1 a (n + (d1 + d2 + d3)) → H1 p = some (.tup xs) → H1 q = some (.tup ys) → H1 r = some (.tup zs) → PA xs → PB ys → PC zs →
      tz D (((σ.set i (some (.ref p))).set j (some (.ref q))).set l (some (.ref r))) H1) : tSeq (tPar3 i j l (tCons ta (tCons tb (tCons tc tNil)))) tz D σ H :=
  h1 n H (But.refl a H) w (by omega) _ fun p xs H2 hp b2 w2 g2 pa => h2 (n + d1) H2 b2 w2 (by omega) _ fun q ys H3 hq b3 w3 g3 pb => h3 (n + d1 + d2) H3 (b2.trans b3) w3 (by omega) _ fun r zs H4 hr b4 w4 g4 pc => by
    refine ⟨_, _, _, rfl, k p q r xs ys zs H4 hp (but_free b2 w2 hq) (but_free (b2.trans b3) w3 hr) ((b2.trans b3).trans b4) ?_ (b4 _ _ (w.ne hp) (b3 _ _ (w.ne hp) g2)) (b4 _ _ (w2.ne hq) g3) g4 pa pb pc⟩
    rw [show n + (d1 + d2 + d3) = n + d1 + d2 + d3 by omega]
    exact w4
theorem qw_par3L {i j l : Nat} {tc : TE} {d3 : Nat} {PA PB PC : List V → Prop} (h1 : EvWL a d1 ta σ H PA) (h2 : EvWL a d2 tb σ H PB) (h3 : EvWL a d3 tc σ H PC) (w : Well H a n) (hl : n + (d1 + d2 + d3) ≤ 2 ^ 50)
    (k : ∀ p q r xs ys zs H1, H p = none → H q = none → H r = none → But a H H1 → Well H1 a (n + (d1 + d2 + d3)) → H1 p = some (.lst xs) → H1 q = some (.lst ys) → H1 r = some (.lst zs) → PA xs → PB ys → PC zs →
      tz D (((σ.set i (some (.ref p))).set j (some (.ref q))).set l (some (.ref r))) H1) : tSeq (tPar3 i j l (tCons ta (tCons tb (tCons tc tNil)))) tz D σ H :=
  h1 n H (But.refl a H) w (by omega) _ fun p xs H2 hp b2 w2 g2 pa => h2 (n + d1) H2 b2 w2 (by omega) _ fun q ys H3 hq b3 w3 g3 pb => h3 (n + d1 + d2) H3 (b2.trans b3) w3 (by omega) _ fun r zs H4 hr b4 w4 g4 pc => by
    refine ⟨_, _, _, rfl, k p q r xs ys zs H4 hp (but_free b2 w2 hq) (but_free (b2.trans b3) w3 hr) ((b2.trans b3).trans b4) ?_ (b4 _ _ (w.ne hp) (b3 _ _ (w.ne hp) g2)) (b4 _ _ (w2.ne hq) g3) g4 pa pb pc⟩
    rw [show n + (d1 + d2 + d3) = n + d1 + d2 + d3 by omega]
    exact w4
end
end Bk
namespace Bk
open PySem PySem.Spec PyProof.Rows L2 Evl
/-! ### lists of lists of numbers -/
def up (r : List Nat) : List Int := r.map fun k : Nat => (k : Int)
theorem up_length (r : List Nat) : (up r).length = r.length := by simp [up]
def Nest (H : Hp) (qs : List Addr) (R : List (List Nat)) : Prop := qs.length = R.length ∧ ∀ (i : Nat) (q : Addr) (r : List Nat), qs[i]? = some q → R[i]? = some r → H q = some (.lst (vi (up r)))
section
variable {K : PySem.W.Frag} {σ : L2.St} {H H1 H' : Hp} {qs : List Addr} {R : List (List Nat)} {p q : Addr} {r : List Nat} {ta tb te tl : TE} {t u : TT} {x y z v : V} {D : Ends} {tu tw tz : TS}
theorem Nest.nil : Nest H [] [] := ⟨rfl, fun _ _ _ h => nomatch h⟩
theorem Nest.ex (h : Nest H qs R) (e : Ex H H1) : Nest H1 qs R := ⟨h.1, fun i q r a b => e _ _ (h.2 i q r a b)⟩
theorem Nest.but (h : Nest H qs R) (e : But p H H1) (n : ∀ q ∈ qs, q ≠ p) : Nest H1 qs R := ⟨h.1, fun i q r a b => e _ _ (n q (List.mem_of_getElem? a)) (h.2 i q r a b)⟩
theorem Nest.upd {o : HO} (h : Nest H qs R) (n : ∀ q ∈ qs, q ≠ p) : Nest (L2.upd H p o) qs R := ⟨h.1, fun i q r a b => by
  rw [upd_ne (n q (List.mem_of_getElem? a))]
  exact h.2 i q r a b⟩
theorem Nest.some (h : Nest H qs R) (hq : q ∈ qs) : ∃ o, H q = some o := by
  obtain ⟨i, hi, e⟩ := List.getElem_of_mem hq
  have hi' : i < R.length := h.1 ▸ hi
  exact ⟨_, h.2 i q R[i] (by rw [← e, List.getElem?_eq_getElem hi]) (List.getElem?_eq_getElem hi')⟩
theorem Nest.ne (_ : Nest H qs R) (h : Nest H1 qs R) (hq : q ∈ qs) (n : H1 p = none) : q ≠ p := fun e => by
  obtain ⟨o, ho⟩ := h.some hq
  rw [e, n] at ho
  cases ho
theorem Nest.put (h : Nest H qs R) (hq : H q = Option.some (.lst (vi (up r)))) : Nest H (qs ++ [q]) (R ++ [r]) := by
  refine ⟨by rw [List.length_append, List.length_append, h.1]; rfl, fun i q' r' a b => ?_⟩
  by_cases c : i < qs.length
  · rw [List.getElem?_append_left c] at a
    rw [List.getElem?_append_left (h.1 ▸ c)] at b
    exact h.2 i q' r' a b
  · rw [List.getElem?_append_right (by omega)] at a
    rw [List.getElem?_append_right (by have := h.1; omega)] at b
    rw [← h.1] at b
    match hi : i - qs.length, a, b with
    | 0, a, b =>
      cases a
      cases b
      exact hq
    | k + 1, a, b => cases a
theorem ne_of_none' {o : HO} {a b : Addr} (n : H a = none) (h : H b = some o) : a ≠ b := fun e => by
  rw [e, h] at n
  cases n
theorem rings_le {R : List (List Nat)} (h : ∀ r ∈ R, 0 < r.length) : R.length ≤ R.flatten.length := by
  induction R with
  | nil => exact Nat.le_refl _
  | cons a R ih =>
    rw [List.flatten_cons, List.length_append, List.length_cons]
    have := h a List.mem_cons_self
    have := ih fun r hr => h r (List.mem_cons_of_mem _ hr)
    omega
def RetN (R : List (List Nat)) (H : Hp) (Q : VK) : Prop := ∀ p qs H2, H p = none → Ex H H2 → H2 p = some (.lst (qs.map .ref)) → Nest H2 qs R → (∀ q ∈ qs, H q = none) → Q (.ref p) H2
def SpN (sp : Sp) (vs : List V) (H : Hp) (R : List (List Nat)) : Prop := ∀ H1, Ex H H1 → ∀ Q : VK, RetN R H1 Q → ∀ E : XK, sp vs H1 Q E
def EvN (te : TE) (σ : L2.St) (H : Hp) (R : List (List Nat)) : Prop := ∀ H1, Ex H H1 → ∀ Q : VK, RetN R H1 Q → te σ H1 Q
theorem en_call {sp : Sp} {vs : List V} {E : XK} {ta : TA} (h : EvA ta σ H vs) (hs : SpN sp vs H R) : EvN (tCall sp [] E ta) σ H R := fun H1 e Q q =>
  h H1 e _ fun H2 e2 => by
    have := hs H2 (e.trans e2) Q (fun p qs H3 hp e3 h3 n f => q p qs H3 (fresh_back e2 hp) (e2.trans e3) h3 n fun b hb => fresh_back e2 (f b hb)) E
    rw [← List.append_nil vs] at this
    exact this
/-- a comprehension over it -/
theorem el_lcN {j : Nat} {vs : List Nat} (f : Nat → Bool) (v : Nat → V) (h : EvN tl σ H R) (hz : R.length ≤ 40000) (hw : ∀ x, wipe ((wipe σ vs).set j (some x)) vs = wipe σ vs)
    (ht : ∀ (i : Nat) q r H1, Ex H H1 → R[i]? = some r → H1 q = some (.lst (vi (up r))) → EvT t ((wipe σ vs).set j (some (.ref q))) H1 (f i)) (he : ∀ (i : Nat) q r H1, Ex H H1 → R[i]? = some r → H1 q = some (.lst (vi (up r))) → f i = true → Ev te ((wipe σ vs).set j (some (.ref q))) H1 (v i)) :
    EvL (tLc (iList K tl) (gName j) t te vs) σ H (given R.length f v) := fun H0 e Q q => h H0 e _ fun a qs H1 ha e1 hx nq _ => ⟨a, rfl, ⟨qs.map .ref, sq_of hx⟩, fun Dl hD =>
  lc_list (xs := qs.map .ref) (Cw H1 f v Dl) ⟨hD, Ex.new hD, upd_same⟩ (fun i H' _ p => sq_of (p.2.1 a _ hx)) (fun i x H' hi p => by
    rw [List.getElem?_map] at hi
    cases g : qs[i]? with
    | none => rw [g] at hi; cases hi
    | some b =>
      rw [g] at hi
      cases hi
      have hl := (List.getElem?_eq_some_iff.mp g).1
      have hlr : i < R.length := nq.1 ▸ hl
      have hR : R[i]? = some R[i] := List.getElem?_eq_getElem hlr
      have hb := nq.2 i b _ g hR
      refine ⟨hw _, cw_turn p (by have := nq.1; omega) (ht i b _ H1 (e.trans e1) hR hb) (fun hf => he i b _ H1 (e.trans e1) hR hb hf)⟩)
    (fun H' p => q Dl H' (fresh_back e1 p.1) (e1.trans p.2.1) (by
      have := p.2.2
      rw [List.length_map, nq.1] at this
      exact this))⟩
/-- a loop over it -/
theorem s_forN {j : Nat} (h : EvN tl σ H R) (Pv : Addr → List Addr → Nat → L2.St → Hp → Prop) (h0 : ∀ p qs H1, H p = none → Ex H H1 → H1 p = some (.lst (qs.map .ref)) → Nest H1 qs R → (∀ q ∈ qs, H q = none) → Pv p qs 0 σ H1)
    (hl : ∀ p qs i σ' H', i ≤ R.length → Pv p qs i σ' H' → H' p = some (.lst (qs.map .ref)) ∧ Nest H' qs R)
    (hs : ∀ p qs i q r σ' H', R[i]? = some r → H' q = some (.lst (vi (up r))) → q ∈ qs → Pv p qs i σ' H' → tu { D with nx := Pv p qs (i + 1), ct := Pv p qs (i + 1), bk := D.nx } (σ'.set j (some (.ref q))) H') (hd : ∀ p qs σ' H', Pv p qs R.length σ' H' → D.nx σ' H') : tFor (iList K tl) (gName j) tu D σ H :=
  h H (Ex.refl H) _ fun p qs H1 hp e h1 nq fq => ⟨p, rfl, ⟨qs.map .ref, sq_of h1⟩, for_list (Pv p qs) (h0 p qs H1 hp e h1 nq fq) (fun i σ' H' hi k => sq_of (hl p qs i σ' H' (by rw [List.length_map, nq.1] at hi; exact hi) k).1) (fun i x σ' H' hx k => by
    rw [List.getElem?_map] at hx
    cases g : qs[i]? with
    | none => rw [g] at hx; cases hx
    | some b =>
      rw [g] at hx
      cases hx
      have hlt := (List.getElem?_eq_some_iff.mp g).1
      have hlr : i < R.length := nq.1 ▸ hlt
      have hR : R[i]? = some R[i] := List.getElem?_eq_getElem hlr
      exact hs p qs i b _ σ' H' hR ((hl p qs i σ' H' (Nat.le_of_lt hlr) k).2.2 i b _ g hR) (List.mem_of_getElem? g) k) (fun σ' H' k => hd p qs σ' H' (by rw [List.length_map, nq.1] at k; exact k))⟩
theorem q_forN {j : Nat} (h : EvN tl σ H R) (Pv : Addr → List Addr → Nat → L2.St → Hp → Prop) (h0 : ∀ p qs H1, H p = none → Ex H H1 → H1 p = some (.lst (qs.map .ref)) → Nest H1 qs R → (∀ q ∈ qs, H q = none) → Pv p qs 0 σ H1)
    (hl : ∀ p qs i σ' H', i ≤ R.length → Pv p qs i σ' H' → H' p = some (.lst (qs.map .ref)) ∧ Nest H' qs R)
    (hs : ∀ p qs i q r σ' H', R[i]? = some r → H' q = some (.lst (vi (up r))) → q ∈ qs → Pv p qs i σ' H' → tu { D with nx := Pv p qs (i + 1), ct := Pv p qs (i + 1), bk := tz D } (σ'.set j (some (.ref q))) H') (hd : ∀ p qs σ' H', Pv p qs R.length σ' H' → tz D σ' H') : tSeq (tFor (iList K tl) (gName j) tu) tz D σ H :=
  s_forN (D := { D with nx := tz D }) h Pv h0 hl hs hd
end
end Bk
namespace Bk
open PySem PySem.Spec PyProof.Rows L2 Evl
/-! ### tests and calls with drawn parts -/
def EvWT (a : Addr) (d : Nat) (t : TT) (σ : L2.St) (H : Hp) (b : Bool) : Prop := ∀ (n : Nat) (H1 : Hp), But a H H1 → Well H1 a n → n + d ≤ 2 ^ 50 → ∀ Q : Bool → Hp → Prop, (∀ H2, But a H1 H2 → Well H2 a (n + d) → Q b H2) → t σ H1 Q
section
variable {K : PySem.W.Frag} {σ : L2.St} {H : Hp} {ta tb te ti tl : TE} {t u : TT} {a : Addr} {d d1 d2 n : Nat} {P P1 P2 : V → Prop} {v x y : V} {b : Bool} {D : Ends} {tu tw tz : TS} {sp : Sp} {E : XK}
theorem ewt_test (h : EvW a d te σ H (fun v => v = .bl b)) : EvWT a d (tTest te) σ H b := fun n H1 bt w l Q q => h n H1 bt w l _ fun v H2 b2 w2 e => ⟨b, e, q H2 b2 w2⟩
theorem ewt_B (h : EvW a d te σ H (fun v => v = .bl b)) : EvWT a d (tB te) σ H b := fun n H1 bt w l Q q => h n H1 bt w l _ fun v H2 b2 w2 e => ⟨b, e, q H2 b2 w2⟩
theorem ewt_not {c : Bool} (h : EvWT a d t σ H c) : EvWT a d (tNot t) σ H (!c) := fun n H1 bt w l Q q => h n H1 bt w l _ fun H2 b2 w2 => q H2 b2 w2
theorem qw_when (h : EvWT a d t σ H b) (w : Well H a n) (l : n + d ≤ 2 ^ 50) (k1 : b = true → ∀ H1, But a H H1 → Well H1 a (n + d) → tu { D with nx := tz D } σ H1) (k2 : b = false → ∀ H1, But a H H1 → Well H1 a (n + d) → tw { D with nx := tz D } σ H1) : tSeq (tIfS t tu tw) tz D σ H :=
  h n H (But.refl a H) w l _ fun H2 b2 w2 => by
    cases b with
    | true => exact iteT (k1 rfl H2 b2 w2)
    | false => exact iteF (k2 rfl H2 b2 w2)
theorem sw_when (h : EvWT a d t σ H b) (w : Well H a n) (l : n + d ≤ 2 ^ 50) (k1 : b = true → ∀ H1, But a H H1 → Well H1 a (n + d) → tu D σ H1) (k2 : b = false → ∀ H1, But a H H1 → Well H1 a (n + d) → tw D σ H1) : tIfS t tu tw D σ H :=
  h n H (But.refl a H) w l _ fun H2 b2 w2 => by
    cases b with
    | true => exact iteT (k1 rfl H2 b2 w2)
    | false => exact iteF (k2 rfl H2 b2 w2)
theorem sw_ret (h : EvW a d te σ H P) (w : Well H a n) (l : n + d ≤ 2 ^ 50) (k : ∀ v H1, But a H H1 → Well H1 a (n + d) → P v → D.rt v H1) : tRet te D σ H := h n H (But.refl a H) w l _ k
/-- f(drawn tuple) -/
theorem ew_callU {PU : List V → Prop} (h : EvWU a d te σ H PU) (hs : ∀ p xs H1, H1 p = some (.tup xs) → PU xs → SpV sp [.ref p] H1 v) : EvW a d (tCall sp [] E (tCons te tNil)) σ H (fun z => z = v) := fun n H1 bt w l Q q =>
  h n H1 bt w l _ fun p xs H2 hp b2 w2 h2 pu => hs p xs H2 h2 pu H2 (Ex.refl H2) Q (fun H3 e3 => q v H3 (b2.trans (But.ex e3)) (w2.ex e3) rfl) E
theorem ew_callUV {PU : List V → Prop} (h : EvWU a d1 te σ H PU) (h' : EvW a d2 ti σ H P) (hs : ∀ p xs x H1, H1 p = some (.tup xs) → PU xs → P x → SpV sp [.ref p, x] H1 v) : EvW a (d1 + d2) (tCall sp [] E (tCons te (tCons ti tNil))) σ H (fun z => z = v) := fun n H1 bt w l Q q =>
  h n H1 bt w (by omega) _ fun p xs H2 hp b2 w2 h2 pu => h' (n + d1) H2 (bt.trans b2) w2 (by omega) _ fun x H3 b3 w3 px => hs p xs x H3 (b3 _ _ (w.ne hp) h2) pu px H3 (Ex.refl H3) Q (fun H4 e4 => q v H4 ((b2.trans b3).trans (But.ex e4)) (by
    have := w3.ex e4
    rw [Nat.add_assoc] at this
    exact this) rfl) E
/-- draw > 0 or f(..) -/
theorem ew_orV {c : Bool} (h1 : EvW a d1 ta σ H (fun v => ∃ b, v = .bl b)) (h2 : EvW a d2 tb σ H (fun v => v = .bl true)) : EvW a (d1 + d2) (tOrV ta tb) σ H (fun v => v = .bl true) := fun n H1 bt w l Q q =>
  h1 n H1 bt w (by omega) _ fun v H2 b2 w2 ⟨b, e⟩ => ⟨b, e, by
    cases b with
    | true => exact iteT (q _ H2 b2 (w2.mono (by omega)) rfl)
    | false => exact iteF (h2 (n + d1) H2 (bt.trans b2) w2 (by omega) Q fun v H3 b3 w3 e => q v H3 (b2.trans b3) (by
        rw [Nat.add_assoc] at w3
        exact w3) e)⟩
theorem ew_gt {P1 P2 : Int → Prop} (h1 : EvW a d1 ta σ H (fun v => ∃ r, v = .int r ∧ P1 r)) (h2 : EvW a d2 tb σ H (fun v => ∃ r, v = .int r ∧ P2 r)) : EvW a (d1 + d2) (tOp (rI0 fun i j => .bl (decide (j < i))) ta tb) σ H (fun v => ∃ b, v = .bl b) :=
  ew_op h1 h2 fun x y ⟨i, ei, p⟩ ⟨j, ej, p'⟩ => ⟨.bl (decide (j < i)), fun H => by
    rw [ei, ej]
    exact rv_b rfl, _, rfl⟩
theorem ew_sub {P1 P2 P : Int → Prop} (h1 : EvW a d1 ta σ H (fun v => ∃ r, v = .int r ∧ P1 r)) (h2 : EvW a d2 tb σ H (fun v => ∃ r, v = .int r ∧ P2 r)) (h : ∀ x y, P1 x → P2 y → P (x - y)) :
    EvW a (d1 + d2) (tOp (rI0 fun i j => .int (i - j)) ta tb) σ H (fun v => ∃ r, v = .int r ∧ P r) :=
  ew_op h1 h2 fun x y ⟨i, ei, p⟩ ⟨j, ej, p'⟩ => ⟨.int (i - j), fun H => by
    rw [ei, ej]
    exact rv_I0, i - j, rfl, h i j p p'⟩
end
section
variable {K : PySem.W.Frag} {σ : L2.St} {H : Hp} {ta tb : TE} {D : Ends} {tz : TS}
/-- x, y = ([..], [..]) by a tuple -/
theorem q_tupLL {i j : Nat} {xs ys : List V} (h1 : EvL ta σ H xs) (h2 : ∀ p H1, H p = none → Ex H H1 → H1 p = some (.lst xs) → EvL tb σ H1 ys) (k : ∀ p q H1, H p = none → H q = none → p ≠ q → Ex H H1 → H1 p = some (.lst xs) → H1 q = some (.lst ys) → tz D ((σ.set i (some (.ref p))).set j (some (.ref q))) H1) :
    tSeq (tAsg (tTup (tCons ta (tCons tb tNil))) (gTup K 2 (gCons (gName i) (gCons (gName j) gNil)))) tz D σ H :=
  h1 H (Ex.refl H) _ fun p H2 hp e2 g2 => h2 p H2 hp e2 g2 H2 (Ex.refl H2) _ fun q H3 hq e3 g3 => ⟨sz_of (by show 2 ≤ 100000; decide), fun r hr => ⟨r, _, rfl, st_of upd_same, rfl, _, _, rfl, _, _, rfl, rfl, k p q _ hp (fresh_back e2 hq) (ne_of_none g2 hq) ((e2.trans e3).trans (Ex.new hr)) (Ex.new hr _ _ (e3 _ _ g2)) (Ex.new hr _ _ g3)⟩⟩
end
/-! ### lists picked -/
theorem given_filter (xs : List Int) (p : Int → Bool) : given xs.length (fun j => p (xs.getD j 0)) (fun j => V.int (xs.getD j 0)) = vi (xs.filter p) := by
  have e : xs = (List.range xs.length).map fun j => xs.getD j 0 := by
    refine List.ext_getElem? fun i => ?_
    rw [List.getElem?_map]
    by_cases hi : i < xs.length
    · rw [List.getElem?_range hi, List.getElem?_eq_getElem hi]
      show _ = some (xs.getD i 0)
      rw [List.getD_eq_getElem?_getD, List.getElem?_eq_getElem hi]
      rfl
    · rw [List.getElem?_eq_none (by omega), List.getElem?_eq_none (by rw [List.length_range]; omega)]
      rfl
  have e2 : xs.filter p = ((List.range xs.length).filter fun j => p (xs.getD j 0)).map fun j => xs.getD j 0 := by
    conv => lhs; rw [e]
    rw [List.filter_map]
    rfl
  unfold given vi
  rw [e2, List.map_map]
  rfl
theorem perm_sum {xs ys : List Int} (h : xs.Perm ys) : xs.sum = ys.sum := by
  induction h with
  | nil => rfl
  | cons x _ ih => rw [List.sum_cons, List.sum_cons, ih]
  | swap x y l => simp only [List.sum_cons]; omega
  | trans _ _ a b => exact a.trans b
end Bk
namespace Bk
open PySem PySem.Spec PyProof.Rows L2 Evl
/-! ### xs.count(k) -/
def rLCount : V → List V → Hp → VK → Prop := fun x vs H Q => ∃ l ns k, x = .ref l ∧ vs = [.int k] ∧ H l = some (.lst (vi ns)) ∧ Q (.int (ns.count k : Nat)) H
theorem mt_lcount {X : Cx} : MtM X "list.count" rLCount := by
  intro pins s σ H x vs v us Q I rx rv h
  obtain ⟨l, ns, k, rfl, rfl, hH, q⟩ := h
  cases rx
  obtain ⟨u, rfl, ru⟩ := rv.one
  obtain ⟨t, rfl⟩ := ru
  obtain ⟨z, its, n, r, hl, e⟩ := I.lstM hH
  exact count_list_ints ⟨_, e, rfl, n, rfl⟩ r.ints ⟨.int (ns.count k : Nat), H, I.tok _, ⟨_, rfl⟩, q⟩
section
variable {K : PySem.W.Frag} {σ : L2.St} {H : Hp} {ta tb : TE}
theorem ev_lcount {l : Addr} {ns : List Int} {k : Int} (ha : Ev ta σ H (.ref l)) (h : H l = some (.lst (vi ns))) (hb : Ev tb σ H (.int k)) : Ev (tBM K "list" rLCount ta (tCons tb tNil)) σ H (.int ((ns.count k : Nat) : Int)) := fun H1 e Q q =>
  ha H1 e _ fun H2 e2 => ⟨Or.inl ⟨rfl, _, sq_of ((e.trans e2) _ _ h)⟩, hb H2 (e.trans e2) _ fun H3 e3 => ⟨l, ns, k, rfl, rfl, ((e.trans e2).trans e3) _ _ h, q H3 (e2.trans e3)⟩⟩
variable {tb' : TE} {D : Ends}
theorem s_parVV {i j : Nat} {x y : V} (h1 : Ev ta σ H x) (h2 : Ev tb σ H y) (k : ∀ H1, Ex H H1 → D.nx ((σ.set i (some x)).set j (some y)) H1) :
    tPar i j (tCons ta (tCons tb tNil)) D σ H :=
  h1 H (Ex.refl H) _ fun H2 e2 => h2 H2 e2 _ fun H3 e3 => ⟨_, _, rfl, k H3 (e2.trans e3)⟩
end
end Bk
namespace Bk
open PySem PySem.Spec PyProof.Rows L2 Evl
section
variable {K : PySem.W.Frag} {σ : L2.St} {H : Hp} {ta tb : TE}
theorem el_listT {p : Addr} {xs : List V} (ha : Ev ta σ H (.ref p)) (h : SqT K H p xs) : EvL (tCB (rListS K) (tCons ta tNil)) σ H xs := fun H1 e Q q =>
  ha H1 e _ fun H2 e2 => ⟨p, xs, rfl, Or.inr (ex_t (e.trans e2) h), fun l hl => q l _ (fresh_back e2 hl) (e2.trans (Ex.new hl)) upd_same⟩
theorem eu_rg1 {n : Int} (ha : Ev ta σ H (.int n)) (h0 : 0 ≤ n) (hn : n ≤ 100000) : EvU (tTupRg (tRg1 ta)) σ H (rgV 0 n) := fun H1 e Q q =>
  ha H1 e _ fun H2 e2 => ⟨n, rfl, RgOk.of_le (by omega) (by omega) (by omega) h0, fun l hl => q l _ (fresh_back e2 hl) (e2.trans (Ex.new hl)) upd_same⟩
theorem ev_neg {i : Int} (ha : Ev ta σ H (.int i)) : Ev (tUn (rU fun i => .int (-i)) ta) σ H (.int (-i)) := fun H1 e Q q => ha H1 e _ fun H2 e2 => ⟨i, rfl, q H2 e2⟩
end
end Bk
namespace Bk
open PySem PySem.Spec PyProof.Rows L2 Evl
/-! ### xs[i] += e, xs[i] -= e -/
def rGetL (K : PySem.W.Frag) : V → V → Hp → VK → Prop := fun x y H Q => ∃ (p : Addr) (xs : List V) (j : Nat) (v : V), x = .ref p ∧ y = .int (j : Int) ∧ SqL K H p xs ∧ xs[j]? = some v ∧ Q v H
theorem pget_list {X : Cx} : PGet X (rGetL X.K) := by
  intro pins s σ H o i ov iv Q I ro ri h
  obtain ⟨p, xs, j, v, rfl, rfl, hq, hx, q⟩ := h
  cases ro
  obtain ⟨t, rfl⟩ := ri
  obtain ⟨its, r, pl, hz⟩ := I.list hq
  obtain ⟨w, ew, rw'⟩ := r.get hx
  have hl := (List.getElem?_eq_some_iff.mp hx).1
  have hn := line63
  exact PySem.wpAny_getItem_list pl.isList (by omega) (by omega) (by simpa using ew) ⟨v, H, I, rw', q⟩
section
variable {K : PySem.W.Frag} {σ : L2.St} {H : Hp} {ta tb te ti to' : TE} {D : Ends} {tu tz : TS} {t : TT}
theorem s_augL {l : Addr} {xs : List V} {j : Nat} {a b : Int} {f : Int → Int → Int} (ho : Ev ta σ H (.ref l)) (hi : Ev ti σ H (.int (j : Int))) (hl : H l = some (.lst xs)) (hx : xs[j]? = some (.int a)) (he : Ev te σ H (.int b)) (k : ∀ H1, Ex H H1 → D.nx σ (upd H1 l (.lst (xs.set j (.int (f a b)))))) :
    tAugS ta ti te (rGetL K) (ipI f) rSetL D σ H := ho H (Ex.refl H) _ fun H1 e1 => hi H1 e1 _ fun H2 e2 =>
  ⟨l, xs, j, _, rfl, rfl, sq_of ((e1.trans e2) _ _ hl), hx, he H2 (e1.trans e2) _ fun H3 e3 => ⟨a, b, rfl, rfl, l, xs, (j : Int), j, rfl, rfl, ((e1.trans e2).trans e3) _ _ hl, ixN_nat (List.getElem?_eq_some_iff.mp hx).1, k H3 ((e1.trans e2).trans e3)⟩⟩
/-! ### range(a, b, c) upwards, from anywhere -/
theorem RgC.upG {lo j c : Int} (l0 : 0 ≤ lo) (l1 : lo ≤ 100000) (h0 : 0 ≤ j) (h1 : j ≤ 100000) (c0 : 0 < c) (c1 : c ≤ 100000) : ∃ n : Nat, RgC lo j c n ∧ (∀ k : Nat, k < n → lo + (k : Int) * c < j) ∧ j ≤ lo + (n : Int) * c := by
  have hs : Builtin.Range.rangeSize lo j c = (if lo < j then (j - lo - 1) / c + 1 else 0) := by
    unfold Builtin.Range.rangeSize
    rw [if_pos c0]
  have hd0 : lo < j → 0 ≤ (j - lo - 1) / c := fun h => Int.ediv_nonneg (by omega) (by omega)
  have hd1 : lo < j → (j - lo - 1) / c ≤ j - lo - 1 := fun h => Int.ediv_le_self _ (by omega)
  refine ⟨(if lo < j then (j - lo - 1) / c + 1 else 0).toNat, ⟨by omega, by omega, ?_, ?_⟩, ?_, ?_⟩
  · unfold Builtin.Range.small
    rw [hs]
    simp only [Builtin.Range.rangeFitsLong, Bool.and_eq_true, Bool.or_eq_true, decide_eq_true_eq, beq_iff_eq, if_pos c0]
    by_cases hj : lo < j
    · have := hd0 hj
      have := hd1 hj
      rw [if_pos hj]
      omega
    · rw [if_neg hj]
      omega
  · rw [hs, Int.toNat_of_nonneg]
    split
    · have := hd0 (by assumption)
      omega
    · omega
  · intro k hk
    by_cases hj : lo < j
    · rw [if_pos hj] at hk
      have h2 : (k : Int) ≤ (j - lo - 1) / c := by
        have := hd0 hj
        omega
      have := (Int.le_ediv_iff_mul_le c0).mp h2
      omega
    · rw [if_neg hj] at hk
      exact absurd hk (Nat.not_lt_zero _)
  · by_cases hj : lo < j
    · rw [if_pos hj]
      have := hd0 hj
      rw [Int.toNat_of_nonneg (by omega)]
      have := Int.lt_ediv_add_one_mul_self (j - lo - 1) c0
      omega
    · rw [if_neg hj]
      show j ≤ lo + (0 : Int) * c
      omega
theorem s_forR3G {ta : TA} {i : Nat} {lo j c : Int} (h : EvA ta σ H [.int lo, .int j, .int c]) (l0 : 0 ≤ lo) (l1 : lo ≤ 100000) (h0 : 0 ≤ j) (h1 : j ≤ 100000) (c0 : 0 < c) (c1 : c ≤ 100000) (Pv : Nat → L2.St → Hp → Prop) (hp0 : ∀ H1, Ex H H1 → Pv 0 σ H1)
    (hs : ∀ (k : Nat) σ' H', lo + (k : Int) * c < j → Pv k σ' H' → tu { D with nx := Pv (k + 1), ct := Pv (k + 1), bk := D.nx } (σ'.set i (some (.int (lo + (k : Int) * c)))) H') (hd : ∀ (k : Nat) σ' H', j ≤ lo + (k : Int) * c → Pv k σ' H' → D.nx σ' H') : tFor (iRng3 ta) (gName i) tu D σ H := by
  obtain ⟨n, hr, hn, he⟩ := RgC.upG l0 l1 h0 h1 c0 c1
  exact h H (Ex.refl H) _ fun H1 e1 => ⟨lo, j, c, n, rfl, hr, for_rangeC (lo := lo) (c := c) (n := n) Pv (hp0 H1 e1) (fun k σ' H' hk p => hs k σ' H' (hn k hk) p) fun σ' H' p => hd n σ' H' he p⟩
theorem q_forNEnC {xs : List V} {tl : TE} {c : Int} {i j : Nat} (h : EvL tl σ H xs) (Pv : Addr → Nat → L2.St → Hp → Prop) (h0 : ∀ p H1, H p = none → Ex H H1 → H1 p = some (.lst xs) → Pv p 0 σ H1) (hl : ∀ p n σ' H', n ≤ xs.length → Pv p n σ' H' → SqL K H' p xs)
    (hs : ∀ p n x σ' H', xs[n]? = some x → Pv p n σ' H' → ∀ H1, Ex H' H1 → tu { D with nx := Pv p (n + 1), ct := Pv p (n + 1), bk := tz D } ((σ'.set i (some (.int (c + (n : Nat))))).set j (some x)) H1) (hd : ∀ p σ' H', Pv p xs.length σ' H' → tz D σ' H') :
    tSeq (tFor (iEnumC K (tCons tl tNil) c) (g2 K i j) tu) tz D σ H := s_forNEnC (D := { D with nx := tz D }) h Pv h0 hl hs hd
theorem rv_notN {x : V} : RV (fun x y H Q => y = V.non ∧ Q (V.bl (!decide (x = V.non))) H) x .non H (.bl (!decide (x = .non))) := fun H1 e Q q => ⟨rfl, q H1 (Ex.refl H1)⟩
theorem rv_isN {x : V} : RV (fun x y H Q => y = V.non ∧ Q (V.bl (decide (x = V.non))) H) x .non H (.bl (decide (x = .non))) := fun H1 e Q q => ⟨rfl, q H1 (Ex.refl H1)⟩
/-! ### a comprehension whose items are drawn -/
theorem ewl_lcR1 {a : Addr} {d1 d2 : Nat} {N : Nat} {P : Int → Prop} {PE : V → Prop} {j : Nat} {vs : List Nat} (h : EvW a d1 te σ H (fun v => ∃ r, v = .int r ∧ P r)) (hP : ∀ r, P r → 0 ≤ r ∧ r ≤ N) (hN : N ≤ 40000) (hw : ∀ x, wipe ((wipe σ vs).set j (some x)) vs = wipe σ vs)
    (he : ∀ (i : Nat) H1, But a H H1 → EvW a d2 to' ((wipe σ vs).set j (some (.int (i : Int)))) H1 PE) :
    EvWL a (d1 + N * d2) (tLc (iRng1 (tCons te tNil)) (gName j) tYes to' vs) σ H (fun xs => ∃ r, P r ∧ (xs.length : Int) = r ∧ ∀ x ∈ xs, PE x) := fun n H0 b w l Q q =>
  h n H0 b w (by omega) _ fun v H1 b1 w1 ⟨r, er, pr⟩ => by
    subst er
    obtain ⟨r0, r1⟩ := hP r pr
    obtain ⟨m, rfl⟩ : ∃ m : Nat, r = m := ⟨r.toNat, by omega⟩
    have mle : m * d2 ≤ N * d2 := Nat.mul_le_mul_right _ (by omega)
    refine ⟨(m : Int), rfl, by omega, by omega, fun Dl hD => ?_⟩
    have nD : Dl ≠ a := w1.ne hD
    refine lc_range (lo := 0) (n := (m : Int).toNat) (fun i H' => But a H1 H' ∧ Well H' a (n + d1 + i * d2) ∧ ∃ xs, H' Dl = some (.lst xs) ∧ xs.length = i ∧ ∀ x ∈ xs, PE x) ⟨But.new hD, ?_, [], upd_same, rfl, fun x hx => nomatch hx⟩ (fun i H' hi p => ?_) (fun H' p => ?_)
    · rw [Nat.zero_mul, Nat.add_zero]
      exact w1.ex (Ex.new hD)
    · have e0 : (0 : Int) + (i : Int) = (i : Int) := Int.zero_add _
      show wipe ((wipe σ vs).set j (some (.int ((0 : Int) + (i : Int))))) vs = wipe σ vs ∧ tYes ((wipe σ vs).set j (some (.int ((0 : Int) + (i : Int))))) H' fun b H3 => if b = true then to' ((wipe σ vs).set j (some (.int ((0 : Int) + (i : Int))))) H3 fun y H4 => ∃ acc, H4 Dl = some (.lst acc) ∧ acc.length < sizeLine ∧ _ else _
      rw [e0]
      obtain ⟨p1, p2, xs, p3, p4, p5⟩ := p
      have hi' : i < m := by omega
      have ile : i * d2 + d2 ≤ m * d2 := by
        rw [← Nat.succ_mul]
        exact Nat.mul_le_mul_right _ hi'
      refine ⟨hw _, et_yes H' (Ex.refl H') _ fun H3 e3 => ?_⟩
      refine iteT (he i H3 (((b.trans b1).trans p1).trans (But.ex e3)) (n + d1 + i * d2) H3 (But.refl a H3) (p2.ex e3) (by omega) _ fun y H4 b4 w4 py => ?_)
      refine ⟨xs, b4 _ _ nD (e3 _ _ p3), sz_lt (by omega), ((p1.trans (But.ex e3)).trans b4).own hD, ?_, xs ++ [y], upd_same, by rw [List.length_append, p4]; rfl, fun x hx => ?_⟩
      · obtain ⟨x, y', c, q1, q2⟩ := w4
        refine ⟨x, y', c, by rw [upd_ne (Ne.symm nD)]; exact q1, ?_⟩
        rw [Nat.succ_mul]
        obtain ⟨q2, q3, q4, q5⟩ := q2
        exact ⟨q2, q3, q4, by omega⟩
      · rcases List.mem_append.mp hx with hx | hx
        · exact p5 x hx
        · rw [List.mem_singleton.mp hx]
          exact py
    · obtain ⟨p1, p2, xs, p3, p4, p5⟩ := p
      rw [Int.toNat_natCast] at p2 p4
      exact q Dl xs H' (but_free b1 w1 hD) (b1.trans p1) (p2.mono (by omega)) p3 ⟨(m : Int), pr, by rw [p4], p5⟩
end
section
variable {K : PySem.W.Frag} {σ : L2.St} {H : Hp} {ta tb te : TE} {a : Addr} {d1 d2 n : Nat} {D : Ends} {tz : TS}
/-- x, y = (drawn list, drawn list), by a tuple -/
theorem qw_tupLL {i j : Nat} {PA PB : List V → Prop} (h1 : EvWL a d1 ta σ H PA) (h2 : EvWL a d2 tb σ H PB) (w : Well H a n) (hl : n + (d1 + d2) ≤ 2 ^ 50)
    (k : ∀ p q xs ys H1, H p = none → H q = none → But a H H1 → Well H1 a (n + (d1 + d2)) → H1 p = some (.lst xs) → H1 q = some (.lst ys) → PA xs → PB ys → tz D ((σ.set i (some (.ref p))).set j (some (.ref q))) H1) :
    tSeq (tAsg (tTup (tCons ta (tCons tb tNil))) (gTup K 2 (gCons (gName i) (gCons (gName j) gNil)))) tz D σ H :=
  h1 n H (But.refl a H) w (by omega) _ fun p xs H2 hp b2 w2 g2 pa => h2 (n + d1) H2 b2 w2 (by omega) _ fun q ys H3 hq b3 w3 g3 pb => ⟨sz_of (by show 2 ≤ 100000; decide), fun r hr => ⟨r, _, rfl, st_of upd_same, rfl, _, _, rfl, _, _, rfl, rfl, by
    refine k p q xs ys _ hp (but_free b2 w2 hq) ((b2.trans b3).trans (But.new hr)) ?_ (Ex.new hr _ _ (b3 _ _ (w.ne hp) g2)) (Ex.new hr _ _ g3) pa pb
    rw [← Nat.add_assoc]
    exact w3.ex (Ex.new hr)⟩⟩
/-- x, y = (drawn, drawn), by a tuple -/
theorem qw_tupVV {i j : Nat} {PA PB : V → Prop} (h1 : EvW a d1 ta σ H PA) (h2 : EvW a d2 tb σ H PB) (w : Well H a n) (hl : n + (d1 + d2) ≤ 2 ^ 50)
    (k : ∀ x y H1, But a H H1 → Well H1 a (n + (d1 + d2)) → PA x → PB y → tz D ((σ.set i (some x)).set j (some y)) H1) :
    tSeq (tAsg (tTup (tCons ta (tCons tb tNil))) (gTup K 2 (gCons (gName i) (gCons (gName j) gNil)))) tz D σ H :=
  h1 n H (But.refl a H) w (by omega) _ fun x H2 b2 w2 pa => h2 (n + d1) H2 b2 w2 (by omega) _ fun y H3 b3 w3 pb => ⟨sz_of (by show 2 ≤ 100000; decide), fun r hr => ⟨r, _, rfl, st_of upd_same, rfl, _, _, rfl, _, _, rfl, rfl, by
    refine k x y _ ((b2.trans b3).trans (But.new hr)) ?_ pa pb
    rw [← Nat.add_assoc]
    exact w3.ex (Ex.new hr)⟩⟩
theorem el_callVL {sp : Sp} {x : V} {xs ys : List V} {E : XK} (h : Ev ta σ H x) (h2 : EvL tb σ H xs) (hs : ∀ p H1, Ex H H1 → H1 p = some (.lst xs) → SpL sp [x, .ref p] H1 ys) : EvL (tCall sp [] E (tCons ta (tCons tb tNil))) σ H ys := fun H1 e Q q =>
  h H1 e _ fun H2 e2 => h2 H2 (e.trans e2) _ fun p H3 hp e3 g3 => hs p H3 ((e.trans e2).trans e3) g3 H3 (Ex.refl H3) Q (fun r H4 hr e4 h4 => q r H4 (fresh_back (e2.trans e3) hr) ((e2.trans e3).trans e4) h4) E
theorem el_callLL {sp : Sp} {xs ys zs : List V} {E : XK} (h : EvL ta σ H xs) (h2 : EvL tb σ H ys) (hs : ∀ p q H1, Ex H H1 → H1 p = some (.lst xs) → H1 q = some (.lst ys) → SpL sp [.ref p, .ref q] H1 zs) : EvL (tCall sp [] E (tCons ta (tCons tb tNil))) σ H zs := fun H1 e Q q =>
  h H1 e _ fun p H2 hp e2 g2 => h2 H2 (e.trans e2) _ fun p' H3 hp' e3 g3 => hs p p' H3 ((e.trans e2).trans e3) (e3 _ _ g2) g3 H3 (Ex.refl H3) Q (fun r H4 hr e4 h4 => q r H4 (fresh_back (e2.trans e3) hr) ((e2.trans e3).trans e4) h4) E
theorem ew_mul {P1 P2 P : Int → Prop} (h1 : EvW a d1 ta σ H (fun v => ∃ r, v = .int r ∧ P1 r)) (h2 : EvW a d2 tb σ H (fun v => ∃ r, v = .int r ∧ P2 r)) (hc : ∀ x y, P1 x → P2 y → CMul x y) (h : ∀ x y, P1 x → P2 y → P (x * y)) :
    EvW a (d1 + d2) (tOp (rI CMul fun i j => .int (i * j)) ta tb) σ H (fun v => ∃ r, v = .int r ∧ P r) :=
  ew_op h1 h2 fun x y ⟨i, ei, p⟩ ⟨j, ej, p'⟩ => ⟨.int (i * j), fun H => by
    rw [ei, ej]
    exact rv_I (hc i j p p'), i * j, rfl, h i j p p'⟩
theorem ev_intB {b : Bool} (ha : Ev ta σ H (.bl b)) : Ev (tCB (fun xs H Q => (∃ i, xs = [.int i] ∧ Q (.int i) H) ∨ ∃ k, xs = [.bl k] ∧ Q (.int (if k then 1 else 0)) H) (tCons ta tNil)) σ H (.int (if b then 1 else 0)) := fun H1 e Q q =>
  ha H1 e _ fun H2 e2 => .inr ⟨b, rfl, q H2 e2⟩
end
theorem vi_of {P : Int → Prop} : ∀ {xs : List V}, (∀ x ∈ xs, ∃ z, x = V.int z ∧ P z) → ∃ cs, xs = vi cs ∧ ∀ z ∈ cs, P z
  | [], _ => ⟨[], rfl, fun _ h => nomatch h⟩
  | x :: xs, h => by
    obtain ⟨z, rfl, pz⟩ := h x List.mem_cons_self
    obtain ⟨cs, rfl, pc⟩ := vi_of fun y hy => h y (List.mem_cons_of_mem _ hy)
    refine ⟨z :: cs, rfl, fun y hy => ?_⟩
    rcases List.mem_cons.mp hy with e | hy
    · rw [e]
      exact pz
    · exact pc y hy
end Bk
namespace Bk
open PySem PySem.Spec PyProof.Rows L2 Evl
/-! ### xs[lo::step] -/
def stepV (xs : List V) (lo st : Option Int) : List V := (sliceRange (sliceBounds lo none st xs.length).1 (sliceBounds lo none st xs.length).2.1 (sliceBounds lo none st xs.length).2.2).filterMap fun i => xs[i]?
def rSlS (K : PySem.W.Frag) : V → Option Int → Option Int → Hp → VK → Prop := fun x lo st H Q => ∃ a xs, x = .ref a ∧ SqL K H a xs ∧ st ≠ some 0 ∧ ∀ p, H p = none → Q (.ref p) (upd H p (.lst (stepV xs lo st)))
def tSlS (r : V → Option Int → Option Int → Hp → VK → Prop) (te : TE) (tl ts : TO) : TE := fun σ H Q => te σ H fun x H1 => tl σ H1 fun l H2 => ts σ H2 fun c H3 => r x l c H3 Q
theorem pe_sliceS {X : Cx} {e : Expr} {te : TE} {lo : Option Expr} {st : Expr} {tl ts : TO} {pos p2 : Pos} (he : PE X e te) (hl : PO X lo tl) (hs : PO X (some st) ts) : PE X (.Subscript e (.Slice lo none (some st) p2) pos) (tSlS (rSlS X.K) te tl ts) := by
  refine ⟨fun pins s σ H Q I h => ?_⟩
  refine Subscript_ (thn (he.run pins s σ H _ I h) fun v s1 ⟨x, H1, I1, r1, q1⟩ => ?_)
  refine wpAny_Slice (thn (hl.run pins s1 σ H1 _ I1 q1) fun vl s2 ⟨l, H2, I2, pl, q2⟩ => ?_)
  rw [evalPart_none]
  refine wpAny_pure ?_
  refine thn (hs.run pins s2 σ H2 _ I2 q2) fun vs s3 ⟨c, H3, I3, ps, q3⟩ => ?_
  obtain ⟨a, xs, rfl, hx, h0, q⟩ := q3
  cases r1
  have I4 : Inv X pins σ H3 { s3 with heap := s3.heap.push { cls := .type "slice", data := .fields #[vl, .none, vs] } } := I3.kept (t' := s3.toks) fun b ob q => Heap.get?_push_of_some _ q
  obtain ⟨its, r, ht, hz⟩ := I4.list hx
  have hlen := r.length
  show wpAny (model X.prog X.w) X.A (subscriptTail e (.Slice lo none (some st) p2) (.ref a) (.ref s3.heap.objs.size)) (EP X pins σ Q) X.xe { s3 with heap := s3.heap.push { cls := .type "slice", data := .fields #[vl, .none, vs] } }
  refine tail_any (ops := [.ref a, .ref s3.heap.objs.size]) ht.isList.typeIs slot_list_getitem.lookup ?_ (by with_unfolding_all rfl)
  refine wpAny_getItem_list_slice ht.isList (Heap.IsSliceOf.new ..) pl .none ps h0 ?_ (by rw [List.size_toArray] <;> omega)
  have hv : Vals (stepV xs l c) ((sliceRange (sliceBounds l none c its.length).1 (sliceBounds l none c its.length).2.1 (sliceBounds l none c its.length).2.2).filterMap fun i => its[i]?) := by
    unfold stepV
    rw [hlen]
    exact vals_pick r _
  have hle := slicePick_size_le its.toArray l none c
  have hp : slicePick its.toArray l none c = ((sliceRange (sliceBounds l none c its.length).1 (sliceBounds l none c its.length).2.1 (sliceBounds l none c its.length).2.2).filterMap fun i => its[i]?).toArray := by
    unfold slicePick
    simp only [List.size_toArray, List.getElem?_toArray]
  rw [hp, List.size_toArray] at hle
  rw [hp]
  refine ⟨.ref _, _, I4.laid (t' := s3.toks) (o := .lst (stepV xs l c)) (fun b ob q => Heap.get?_push_of_some _ q) (Nat.le_refl _) ?_, rfl, q _ (I4.hok.fresh (Nat.le_refl _))⟩
  exact ⟨by rw [hv.length]; rw [List.size_toArray] at hle; omega, _, 0, hv, Heap.get?_push_size _ rfl⟩
theorem filterMap_all {α β : Type} {f : α → Option β} {g : α → β} : ∀ {l : List α}, (∀ i ∈ l, f i = some (g i)) → l.filterMap f = l.map g
  | [], _ => rfl
  | a :: l, h => by
    rw [List.filterMap_cons_some (h a List.mem_cons_self), filterMap_all fun i hi => h i (List.mem_cons_of_mem _ hi), List.map_cons]
theorem step_tab {xs : List Int} {c : Nat} (h0 : 1 ≤ c) (h1 : c ≤ xs.length) : stepV (vi xs) (some ((c : Int) - 1)) (some (c : Int)) = vi ((List.range (xs.length / c)).map fun i => xs.getD ((i + 1) * c - 1) 0) := by
  have eb : sliceBounds (some ((c : Int) - 1)) none (some (c : Int)) (vi xs).length = ((c : Int) - 1, (xs.length : Int), (c : Int)) := by
    rw [List.length_map]
    unfold sliceBounds
    simp only [Option.getD_some, show ¬ ((c : Int) - 1 < 0) by omega, show ((c : Int) > 0) by omega, if_true, if_false]
    rw [show max 0 (min ((c : Int) - 1) (xs.length : Int)) = (c : Int) - 1 by omega]
  unfold stepV
  rw [eb]
  show (sliceRange ((c : Int) - 1) (xs.length : Int) (c : Int)).filterMap _ = _
  have er : sliceRange ((c : Int) - 1) (xs.length : Int) (c : Int) = (List.range (xs.length / c)).map fun i => (i + 1) * c - 1 := by
    unfold sliceRange
    simp only [if_pos (show (c : Int) > 0 by omega), if_pos (show (c : Int) - 1 < (xs.length : Int) by omega)]
    rw [show ((xs.length : Int) - ((c : Int) - 1) + (c : Int) - 1) = (xs.length : Int) by omega, ← Int.natCast_ediv, Int.toNat_natCast]
    refine List.map_congr_left fun i _ => ?_
    have : ((c : Int) - 1 + (c : Int) * (i : Int)) = (((i + 1) * c : Nat) : Int) - 1 := by
      rw [Int.natCast_mul, Int.natCast_add, Int.add_mul, Int.mul_comm (c : Int)]
      omega
    show ((c : Int) - 1 + (c : Int) * (i : Int)).toNat = _
    rw [this]
    generalize (i + 1) * c = M
    omega
  rw [er, List.filterMap_map]
  unfold vi
  rw [List.map_map]
  refine filterMap_all fun i hi => ?_
  have hi := List.mem_range.mp hi
  have hle : (i + 1) * c ≤ xs.length := Nat.le_trans (Nat.mul_le_mul_right _ hi) (Nat.div_mul_le_self _ _)
  have hpos : 0 < (i + 1) * c := Nat.mul_pos (Nat.succ_pos i) (by omega)
  have hlt : (i + 1) * c - 1 < xs.length := by omega
  show (xs.map V.int)[(i + 1) * c - 1]? = some (V.int (xs.getD ((i + 1) * c - 1) 0))
  rw [List.getElem?_map, List.getD_eq_getElem?_getD, List.getElem?_eq_getElem hlt]
  rfl
section
variable {K : PySem.W.Frag} {σ : L2.St} {H : Hp} {ta tb te : TE}
theorem el_slS {a : Addr} {xs : List V} {tl ts : TO} {lo st : Option Int} (h : Ev te σ H (.ref a)) (h1 : EvO tl σ H lo) (h2 : EvO ts σ H st) (hx : SqL K H a xs) (h0 : st ≠ some 0) : EvL (tSlS (rSlS K) te tl ts) σ H (stepV xs lo st) := fun H1 e _ q =>
  h H1 e _ fun H2 e2 => h1 H2 (e.trans e2) _ fun H3 e3 => h2 H3 ((e.trans e2).trans e3) _ fun H4 e4 =>
    ⟨a, xs, rfl, ex_l (((e.trans e2).trans e3).trans e4) hx, h0, fun p hp => q p _ (fresh_back ((e2.trans e3).trans e4) hp) (((e2.trans e3).trans e4).trans (Ex.new hp)) upd_same⟩
end
end Bk
namespace Bk
open PySem PySem.Spec PyProof.Rows L2 Evl
/-! ### tuples compared -/
theorem rv_neT {K : PySem.W.Frag} {H : Hp} {p q : Addr} {ns ms : List Int} (h : SqT K H p (vi ns)) (h' : SqT K H q (vi ms)) : RV (rNeD K) (.ref p) (.ref q) H (.bl (!decide (ns = ms))) := fun H1 e Q k =>
  ⟨_, _, dp_tup (ex_t e h), dp_tup (ex_t e h'), shaped_t ns, shaped_t ms, by rw [eqv_t]; exact k H1 (Ex.refl H1)⟩
section
variable {K : PySem.W.Frag} {σ : L2.St} {H : Hp} {ta tb te : TE}
theorem ev_neUU {ns ms : List Int} (ha : EvU ta σ H (vi ns)) (hb : EvU tb σ H (vi ms)) : Ev (tOp (rNeD K) ta tb) σ H (.bl (!decide (ns = ms))) := fun H1 e Q k =>
  ha H1 e _ fun p H2 hp e2 h2 => hb H2 (e.trans e2) _ fun q H3 hq e3 h3 => rv_neT (st_of (e3 _ _ h2)) (st_of h3) H3 (Ex.refl H3) Q fun H4 e4 => k H4 ((e2.trans e3).trans e4)
theorem ev_neUT {p : Addr} {ns ms : List Int} (ha : EvU ta σ H (vi ns)) (hb : Ev tb σ H (.ref p)) (h : SqT K H p (vi ms)) : Ev (tOp (rNeD K) ta tb) σ H (.bl (!decide (ns = ms))) := fun H1 e Q k =>
  ha H1 e _ fun p H2 hp e2 h2 => hb H2 (e.trans e2) _ fun H3 e3 => rv_neT (st_of (e3 _ _ h2)) (ex_t ((e.trans e2).trans e3) h) H3 (Ex.refl H3) Q fun H4 e4 => k H4 ((e2.trans e3).trans e4)
end
section
variable {K : PySem.W.Frag} {σ : L2.St} {H : Hp} {ta tb te : TE} {a : Addr} {d1 d2 n : Nat} {D : Ends} {tz : TS}
theorem qw_tupUU {i j : Nat} {PA PB : List V → Prop} (h1 : EvWU a d1 ta σ H PA) (h2 : EvWU a d2 tb σ H PB) (w : Well H a n) (hl : n + (d1 + d2) ≤ 2 ^ 50)
    (k : ∀ p q xs ys H1, H p = none → H q = none → But a H H1 → Well H1 a (n + (d1 + d2)) → H1 p = some (.tup xs) → H1 q = some (.tup ys) → PA xs → PB ys → tz D ((σ.set i (some (.ref p))).set j (some (.ref q))) H1) :
    tSeq (tAsg (tTup (tCons ta (tCons tb tNil))) (gTup K 2 (gCons (gName i) (gCons (gName j) gNil)))) tz D σ H :=
  h1 n H (But.refl a H) w (by omega) _ fun p xs H2 hp b2 w2 g2 pa => h2 (n + d1) H2 b2 w2 (by omega) _ fun q ys H3 hq b3 w3 g3 pb => ⟨sz_of (by show 2 ≤ 100000; decide), fun r hr => ⟨r, _, rfl, st_of upd_same, rfl, _, _, rfl, _, _, rfl, rfl, by
    refine k p q xs ys _ hp (but_free b2 w2 hq) ((b2.trans b3).trans (But.new hr)) ?_ (Ex.new hr _ _ (b3 _ _ (w.ne hp) g2)) (Ex.new hr _ _ g3) pa pb
    rw [← Nat.add_assoc]
    exact w3.ex (Ex.new hr)⟩⟩
theorem qw_parVV {i j : Nat} {PA PB : V → Prop} (h1 : EvW a d1 ta σ H PA) (h2 : EvW a d2 tb σ H PB) (w : Well H a n) (hl : n + (d1 + d2) ≤ 2 ^ 50)
    (k : ∀ x y H1, But a H H1 → Well H1 a (n + (d1 + d2)) → PA x → PB y → tz D ((σ.set i (some x)).set j (some y)) H1) :
    tSeq (tPar i j (tCons ta (tCons tb tNil))) tz D σ H :=
  h1 n H (But.refl a H) w (by omega) _ fun x H2 b2 w2 pa => h2 (n + d1) H2 b2 w2 (by omega) _ fun y H3 b3 w3 pb => ⟨_, _, rfl, k x y _ (b2.trans b3) (by
    rw [← Nat.add_assoc]
    exact w3) pa pb⟩
theorem el_callUV {sp : Sp} {xs ys : List V} {y : V} {E : XK} (h : EvU ta σ H xs) (h2 : ∀ p H1, Ex H H1 → H1 p = some (.tup xs) → Ev tb σ H1 y) (hs : ∀ p H1, Ex H H1 → H1 p = some (.tup xs) → SpL sp [.ref p, y] H1 ys) : EvL (tCall sp [] E (tCons ta (tCons tb tNil))) σ H ys := fun H1 e Q q =>
  h H1 e _ fun p H2 hp e2 g2 => h2 p H2 (e.trans e2) g2 H2 (Ex.refl H2) _ fun H3 e3 => hs p H3 ((e.trans e2).trans e3) (e3 _ _ g2) H3 (Ex.refl H3) Q (fun r H4 hr e4 h4 => q r H4 (fresh_back (e2.trans e3) hr) ((e2.trans e3).trans e4) h4) E
end
section
variable {X : Cx} {K : PySem.W.Frag} {o e : Expr} {es : List Expr} {to : TE} {t : TA} {name : Str} {apos cpos : Pos} {T id : String} {r : V → List V → Hp → VK → Prop}
theorem pe_bmK (h : X.K = K) (pa : PlainAttrs T) (slot : Slot T name id) (hty : typeOf (.builtin id) = pure (.type "method_descriptor")) (hm : MtR X id r) (ho : PE X o to) (ha : PA X (e :: es) t)
    (hbase : attributeBase o name X.env (eval o X.env) = eval o X.env := by rfl)
    (hfew : ((backTo cpos (starEach (e :: es) X.env)).all (fun x => !x.1) && (backToKw cpos (keywordEach [] X.env)).all (fun x => x.1.isSome)
      && decide ((e :: es).length + ([] : List Keyword).length + (if ([] : List Keyword).isEmpty then 0 else 1) < 30)) = true := by rfl)
    (hline : (apos.endLine == cpos.line) = true := by rfl) (hs : starEach (e :: es) X.env = (false, eval e X.env) :: starEach es X.env := by rfl) (hplain : (backTo cpos (starEach es X.env)).any (·.1) = false := by rfl) :
    PE X (.Call (.Attribute o name apos) (e :: es) [] cpos) (tBM K T r to t) := by
  subst h
  exact pe_bm pa slot hty hm ho ha hbase hfew hline hs hplain
end
end Bk
namespace Bk
open PySem PySem.Spec PyProof.Rows L2 Evl
section
variable {K : PySem.W.Frag} {σ : L2.St} {H : Hp} {tl : TE} {a : Addr} {d : Nat} {sp : Sp} {E : XK}
/-- f(drawn list), a new list -/
theorem wl_callL {PA PB : List V → Prop} (h : EvWL a d tl σ H PA) (hs : ∀ p xs H1, H1 p = some (.lst xs) → PA xs → ∃ ys, SpL sp [.ref p] H1 ys ∧ PB ys) : EvWL a d (tCall sp [] E (tCons tl tNil)) σ H PB := fun n H1 b w l Q q =>
  h n H1 b w l _ fun p xs H2 hp b2 w2 h2 pa => by
    obtain ⟨ys, hy, pb⟩ := hs p xs H2 h2 pa
    exact hy H2 (Ex.refl H2) Q (fun r H3 hr e3 h3 => q r ys H3 (but_free b2 w2 hr) (b2.trans (But.ex e3)) (w2.ex e3) h3 pb) E
theorem sw_asgL' {D : Ends} {n : Nat} {i : Nat} {P : List V → Prop} {te : TE} (h : EvWL a d te σ H P) (w : Well H a n) (l : n + d ≤ 2 ^ 50) (k : ∀ p xs H1, H p = none → But a H H1 → Well H1 a (n + d) → H1 p = some (.lst xs) → P xs → D.nx (σ.set i (some (.ref p))) H1) : tAsg te (gName i) D σ H :=
  h n H (But.refl a H) w l _ fun p xs H2 hp b2 w2 h2 pa => k p xs H2 hp b2 w2 h2 pa
end
theorem ewl_mono {σ : L2.St} {H : Hp} {te : TE} {a : Addr} {d : Nat} {P P1 : List V → Prop} (x : EvWL a d te σ H P) (h : ∀ v, P v → P1 v) : EvWL a d te σ H P1 := fun n H1 b w l Q q => x n H1 b w l Q fun p v H2 hp b2 w2 g2 k => q p v H2 hp b2 w2 g2 (h v k)
/-- xs[j] = drawn -/
theorem sw_setL {K : PySem.W.Frag} {σ : L2.St} {H : Hp} {te ta tb : TE} {a : Addr} {d n : Nat} {D : Ends} {P : V → Prop} {l : Addr} {xs : List V} {j : Nat} (hl : H l = some (.lst xs)) (nl : l ≠ a) (h : EvW a d te σ H P) (ho : ∀ H1, Ev ta σ H1 (.ref l)) (hi : ∀ H1, Ev tb σ H1 (.int (j : Int))) (hj : j < xs.length) (w : Well H a n) (hn : n + d ≤ 2 ^ 50)
    (k : ∀ v H1, But a H H1 → Well H1 a (n + d) → P v → D.nx σ (upd H1 l (.lst (xs.set j v)))) : tAsg te (gSub ta tb rSetL) D σ H :=
  h n H (But.refl a H) w hn _ fun v H1 b1 w1 pv => ho H1 H1 (Ex.refl H1) _ fun H2 e2 => hi H2 H2 (Ex.refl H2) _ fun H3 e3 =>
    ⟨l, xs, (j : Int), j, rfl, rfl, (e2.trans e3) _ _ (b1 _ _ nl hl), ixN_nat hj, k v H3 (b1.trans (But.ex (e2.trans e3))) (w1.ex (e2.trans e3)) pv⟩
section
variable {K : PySem.W.Frag} {σ : L2.St} {H : Hp} {ta tb te : TE} {x z : V}
/-- a new list of which something is known -/
def EvLX (te : TE) (σ : L2.St) (H : Hp) (P : List V → Prop) : Prop := ∀ H1, Ex H H1 → ∀ Q : VK, (∀ p xs H2, H1 p = none → Ex H1 H2 → H2 p = some (.lst xs) → P xs → Q (.ref p) H2) → te σ H1 Q
def SpLX (sp : Sp) (vs : List V) (H : Hp) (P : List V → Prop) : Prop := ∀ H1, Ex H H1 → ∀ Q : VK, (∀ p xs H2, H1 p = none → Ex H1 H2 → H2 p = some (.lst xs) → P xs → Q (.ref p) H2) → ∀ E : XK, sp vs H1 Q E
theorem elx_call {sp : Sp} {vs : List V} {E : XK} {t : TA} {P : List V → Prop} (h : EvA t σ H vs) (hs : SpLX sp (vs ++ []) H P) : EvLX (tCall sp [] E t) σ H P := fun H1 e Q q =>
  h H1 e _ fun H2 e2 => hs H2 (e.trans e2) Q (fun p xs H3 hp e3 h3 k => q p xs H3 (fresh_back e2 hp) (e2.trans e3) h3 k) E
theorem elx_callK {sp : Sp} {gV : List V → List V → List V} {vs zs : List V} {E : XK} {t tk : TA} {P : List V → Prop} (h : EvA t σ H vs) (h' : EvA tk σ H zs) (hs : SpLX sp (gV vs zs) H P) : EvLX (tCallK sp gV E t tk) σ H P := fun H1 e Q q =>
  h H1 e _ fun H2 e2 => h' H2 (e.trans e2) _ fun H3 e3 => hs H3 ((e.trans e2).trans e3) Q (fun p xs H4 hp e4 h4 k => q p xs H4 (fresh_back (e2.trans e3) hp) ((e2.trans e3).trans e4) h4 k) E
theorem ev_callVLX {sp : Sp} {E : XK} {P : List V → Prop} (h : Ev ta σ H x) (h2 : EvLX tb σ H P) (hs : ∀ p xs H1, Ex H H1 → H1 p = some (.lst xs) → P xs → SpV sp [x, .ref p] H1 z) : Ev (tCall sp [] E (tCons ta (tCons tb tNil))) σ H z := fun H1 e Q q =>
  h H1 e _ fun H2 e2 => h2 H2 (e.trans e2) _ fun p xs H3 hp e3 g3 k => hs p xs H3 ((e.trans e2).trans e3) g3 k H3 (Ex.refl H3) Q (fun H4 e4 => q H4 ((e2.trans e3).trans e4)) E
theorem q_asgLX {D : Ends} {tz : TS} {i : Nat} {P : List V → Prop} (h : EvLX te σ H P) (k : ∀ p xs H1, H p = none → Ex H H1 → H1 p = some (.lst xs) → P xs → tz D (σ.set i (some (.ref p))) H1) : tSeq (tAsg te (gName i)) tz D σ H :=
  h H (Ex.refl H) _ fun p xs H1 hp e1 h1 pk => k p xs H1 hp e1 h1 pk
end
end Bk
namespace Bk
open PySem PySem.Spec PyProof.Rows L2 Evl
/-! ### math.gcd, math.lcm -/
def rLcm : List V → Hp → VK → Prop := fun vs H Q => ∃ a b : Int, vs = [.int a, .int b] ∧ a.natAbs < 2 ^ 64 ∧ b.natAbs < 2 ^ 64 ∧ Q (.int ((Nat.lcm a.natAbs b.natAbs : Nat) : Int)) H
theorem cr_lcm {X : Cx} : CallR X (.builtin "math.lcm") rLcm := by
  intro pins s σ H vs us Q I r h
  obtain ⟨a, b, rfl, ha, hb, q⟩ := h
  obtain ⟨t, u, rfl⟩ := Vals.int2 r
  have e : ((Nat.lcm 1 a.natAbs).lcm b.natAbs) = Nat.lcm a.natAbs b.natAbs := by rw [Nat.lcm_one_left]
  refine PySem.W.mg_lcm_v (c := ((Nat.lcm a.natAbs b.natAbs : Nat) : Int)) ha hb (by rw [e]) ?_ ⟨.int _, H, I.tok _, ⟨_, rfl⟩, q⟩
  rw [Int.natAbs_natCast]
  have h1 : Nat.lcm a.natAbs b.natAbs ≤ a.natAbs * b.natAbs := by
    by_cases h0 : a.natAbs * b.natAbs = 0
    · rcases Nat.mul_eq_zero.mp h0 with z | z
      · rw [z, Nat.lcm_zero_left]; exact Nat.zero_le _
      · rw [z, Nat.lcm_zero_right]; exact Nat.zero_le _
    · exact Nat.le_of_dvd (Nat.pos_of_ne_zero h0) (Nat.lcm_dvd_mul _ _)
  have h2 : a.natAbs * b.natAbs < 2 ^ 64 * 2 ^ 64 := Nat.mul_lt_mul'' ha hb
  exact Nat.lt_of_lt_of_le (PySem.Flt.log2_lt_of (k := 128) (by decide) (by omega)) (by decide)
section
variable {K : PySem.W.Frag} {σ : L2.St} {H : Hp} {ta tb te : TE} {a b : Int}
theorem ev_gcd (ha : Ev ta σ H (.int a)) (hb : Ev tb σ H (.int b)) : Ev (tCB rGcd (tCons ta (tCons tb tNil))) σ H (.int ((Nat.gcd a.natAbs b.natAbs : Nat) : Int)) := fun H1 e Q q =>
  ha H1 e _ fun H2 e2 => hb H2 (e.trans e2) _ fun H3 e3 => ⟨a, b, rfl, q H3 (e2.trans e3)⟩
theorem ev_lcm (ha : Ev ta σ H (.int a)) (hb : Ev tb σ H (.int b)) (h1 : a.natAbs < 2 ^ 64) (h2 : b.natAbs < 2 ^ 64) : Ev (tCB rLcm (tCons ta (tCons tb tNil))) σ H (.int ((Nat.lcm a.natAbs b.natAbs : Nat) : Int)) := fun H1 e Q q =>
  ha H1 e _ fun H2 e2 => hb H2 (e.trans e2) _ fun H3 e3 => ⟨a, b, rfl, h1, h2, q H3 (e2.trans e3)⟩
end
/-! ### None or a pair of a number and a text -/
def BarV (b : Option (Nat × Str)) (v : V) (H : Hp) : Prop := match b with
  | none => v = .non
  | some (n, s) => ∃ p, v = .ref p ∧ H p = some (.tup [.int (n : Int), .str s])
theorem BarV.ex {b : Option (Nat × Str)} {v : V} {H H' : Hp} (h : BarV b v H) (e : Ex H H') : BarV b v H' := by
  cases b with
  | none => exact h
  | some x =>
    obtain ⟨p, e1, e2⟩ := h
    exact ⟨p, e1, e _ _ e2⟩
theorem BarV.isN {b : Option (Nat × Str)} {v : V} {H : Hp} (h : BarV b v H) : decide (v = .non) = b.isNone := by
  cases b with
  | none =>
    have h' : v = .non := h
    rw [h']
    rfl
  | some x =>
    obtain ⟨p, e1, e2⟩ := h
    rw [e1]
    rfl
def RetB (b : Option (Nat × Str)) (H : Hp) (Q : VK) : Prop := ∀ v H2, Ex H H2 → BarV b v H2 → Q v H2
def SpB (sp : Sp) (vs : List V) (H : Hp) (b : Option (Nat × Str)) : Prop := ∀ H1, Ex H H1 → ∀ Q : VK, RetB b H1 Q → ∀ E : XK, sp vs H1 Q E
def EvB (te : TE) (σ : L2.St) (H : Hp) (b : Option (Nat × Str)) : Prop := ∀ H1, Ex H H1 → ∀ Q : VK, RetB b H1 Q → te σ H1 Q
section
variable {K : PySem.W.Frag} {σ : L2.St} {H : Hp} {ta tb te : TE} {t : TA} {sp : Sp} {E : XK} {vs xs : List V} {b : Option (Nat × Str)} {D : Ends} {tz : TS} {i : Nat}
theorem eb_call (h : EvA t σ H vs) (hs : SpB sp (vs ++ []) H b) : EvB (tCall sp [] E t) σ H b := fun H1 e Q q =>
  h H1 e _ fun H2 e2 => hs H2 (e.trans e2) Q (fun v H3 e3 h3 => q v H3 (e2.trans e3) h3) E
theorem eb_callK {gV : List V → List V → List V} {zs : List V} {tk : TA} (h : EvA t σ H vs) (h' : EvA tk σ H zs) (hs : SpB sp (gV vs zs) H b) : EvB (tCallK sp gV E t tk) σ H b := fun H1 e Q q =>
  h H1 e _ fun H2 e2 => h' H2 (e.trans e2) _ fun H3 e3 => hs H3 ((e.trans e2).trans e3) Q (fun v H4 e4 h4 => q v H4 ((e2.trans e3).trans e4) h4) E
theorem eb_callL (h : EvL te σ H xs) (hs : ∀ p H1, Ex H H1 → H1 p = some (.lst xs) → SpB sp [.ref p] H1 b) : EvB (tCall sp [] E (tCons te tNil)) σ H b := fun H1 e Q q =>
  h H1 e _ fun p H2 hp e2 h2 => hs p H2 (e.trans e2) h2 H2 (Ex.refl H2) Q (fun v H3 e3 h3 => q v H3 (e2.trans e3) h3) E
theorem ev_bN (h : EvB te σ H b) : Ev (tOp (fun x y H Q => y = V.non ∧ Q (V.bl (decide (x = V.non))) H) te (tC .non)) σ H (.bl b.isNone) := fun H1 e Q q =>
  h H1 e _ fun v H2 e2 h2 => ⟨rfl, by
    rw [h2.isN]
    exact q H2 e2⟩
theorem ev_bS (h : EvB te σ H b) : Ev (tOp (fun x y H Q => y = V.non ∧ Q (V.bl (!decide (x = V.non))) H) te (tC .non)) σ H (.bl b.isSome) := fun H1 e Q q =>
  h H1 e _ fun v H2 e2 h2 => ⟨rfl, by
    rw [h2.isN]
    cases b
    · exact q H2 e2
    · exact q H2 e2⟩
theorem q_asgB (h : EvB te σ H b) (k : ∀ v H1, Ex H H1 → BarV b v H1 → tz D (σ.set i (some v)) H1) : tSeq (tAsg te (gName i)) tz D σ H :=
  h H (Ex.refl H) _ fun v H1 e1 h1 => k v H1 e1 h1
theorem s_retB (h : EvB te σ H b) (k : ∀ v H1, Ex H H1 → BarV b v H1 → D.rt v H1) : tRet te D σ H := h H (Ex.refl H) _ k
theorem s_retBn {n : Nat} {s : Str} {k : Int} (h : Ev ta σ H (.int k)) (hk : k = (n : Int)) (h' : ∀ H1, Ex H H1 → Ev tb σ H1 (.str s)) (q : ∀ v H1, Ex H H1 → BarV (some (n, s)) v H1 → D.rt v H1) : tRet (tTup (tCons ta (tCons tb tNil))) D σ H :=
  h H (Ex.refl H) _ fun H1 e1 => h' H1 e1 H1 (Ex.refl H1) _ fun H2 e2 => ⟨sz_of (by show 2 ≤ 100000; decide), fun p hp => q (.ref p) _ ((e1.trans e2).trans (Ex.new hp)) ⟨p, rfl, by
    rw [upd_same, hk]⟩⟩
end
/-! ### a value of which something is known -/
def EvX (te : TE) (σ : L2.St) (H : Hp) (P : V → Prop) : Prop := ∀ H1, Ex H H1 → ∀ Q : VK, (∀ v H2, Ex H1 H2 → P v → Q v H2) → te σ H1 Q
def SpX (sp : Sp) (vs : List V) (H : Hp) (P : V → Prop) : Prop := ∀ H1, Ex H H1 → ∀ Q : VK, (∀ v H2, Ex H1 H2 → P v → Q v H2) → ∀ E : XK, sp vs H1 Q E
section
variable {K : PySem.W.Frag} {σ : L2.St} {H : Hp} {ta tb te tl : TE} {t : TA} {tt : TT} {sp : Sp} {E : XK} {vs xs : List V} {D : Ends} {tz tu tw : TS} {i : Nat} {P : V → Prop}
theorem evx_call (h : EvA t σ H vs) (hs : SpX sp (vs ++ []) H P) : EvX (tCall sp [] E t) σ H P := fun H1 e Q q =>
  h H1 e _ fun H2 e2 => hs H2 (e.trans e2) Q (fun v H3 e3 h3 => q v H3 (e2.trans e3) h3) E
theorem q_asgX (h : EvX te σ H P) (k : ∀ v H1, Ex H H1 → P v → tz D (σ.set i (some v)) H1) : tSeq (tAsg te (gName i)) tz D σ H :=
  h H (Ex.refl H) _ fun v H1 e1 h1 => k v H1 e1 h1
/-- a comprehension over a new tuple -/
theorem el_lcNT {j : Nat} {ws : List Nat} (f : Nat → Bool) (v : Nat → V) (h : EvU tl σ H xs) (hz : xs.length ≤ 40000) (hw : ∀ x, wipe ((wipe σ ws).set j (some x)) ws = wipe σ ws)
    (ht : ∀ (i : Nat) (x : V) H1, Ex H H1 → xs[i]? = some x → EvT tt ((wipe σ ws).set j (some x)) H1 (f i)) (he : ∀ (i : Nat) (x : V) H1, Ex H H1 → xs[i]? = some x → f i = true → Ev te ((wipe σ ws).set j (some x)) H1 (v i)) :
    EvL (tLc (iTup K tl) (gName j) tt te ws) σ H (given xs.length f v) := fun H0 e Q q => h H0 e _ fun a H1 ha e1 h1 => ⟨a, rfl, ⟨xs, st_of h1⟩, fun Dl hD =>
  lc_tup (xs := xs) (Cw H1 f v Dl) ⟨hD, Ex.new hD, upd_same⟩ (fun i H' _ p => st_of (p.2.1 _ _ h1)) (fun i x H' hi p => ⟨hw x, cw_turn p (by have := (List.getElem?_eq_some_iff.mp hi).1; omega) (ht i x H1 (e.trans e1) hi) (fun hf => he i x H1 (e.trans e1) hi hf)⟩)
    (fun H' p => q Dl H' (fresh_back e1 p.1) (e1.trans p.2.1) p.2.2)⟩
variable {a : Addr} {d n : Nat}
theorem sw_ifB (h : EvW a d te σ H (fun v => ∃ b, v = .bl b)) (w : Well H a n) (l : n + d ≤ 2 ^ 50) (k1 : ∀ H1, But a H H1 → Well H1 a (n + d) → tu D σ H1)
    (k2 : ∀ H1, But a H H1 → Well H1 a (n + d) → tw D σ H1) : tIfS (tTest te) tu tw D σ H :=
  h n H (But.refl a H) w l _ fun v H2 b2 w2 ⟨b, e⟩ => ⟨b, e, by
    cases b with
    | true => exact iteT (k1 H2 b2 w2)
    | false => exact iteF (k2 H2 b2 w2)⟩
end
end Bk
namespace Bk
open PySem PySem.Spec PyProof.Rows L2 Evl
/-! ### an own error class whose __init__ says super().__init__('..') and keeps one field -/
/-- the def of a class, by its place in the class -/
def clsDef (st : Stmt) (i : Nat) : Stmt := match st with
  | .ClassDef _ _ _ b _ _ _ _ _ _ _ => b.getD i (.Pass ⟨0, 0, 0, 0⟩)
  | s => s
/-- the names of such an __init__ -/
structure SupS (f : Str) (sc : Scope) : Prop where
  kind : sc.kind = .function
  co : sc.isCoroutine = false
  gen : sc.isGenerator = false
  nocell : ∀ x ∈ sc.names, x.2 ≠ .cell
  free : ∀ x ∈ sc.names, x.2 = .free → x.1 = "__class__"
  self : sc.names.lookup ("self" : Str) = some .local
  field : sc.names.lookup f = some .local
  sup : sc.names.lookup ("super" : Str) = some .globalImplicit
  cls : sc.names.lookup ("__class__" : Str) = some .free
  fs : f ≠ "self"
  fd : (f == ("__debug__" : Str)) = false
  fc : (f == ("__classdict__" : Str)) = false
structure SupC (P : Program) (K : PySem.W.Frag) (mg : Str → Option Value) (C fI : Addr) (fd : FuncData) (f : Str) (st : Stmt) : Prop where
  ox : OexC K C
  iC : PySem.W.findIn K (.ref C) "__init__" = some (some (.ref fI))
  tI : PySem.W.typeIn K (.ref fI) = some (.type "function")
  nf : PySem.W.findIn K (.ref C) f = some none
  up : PySem.W.ks_superIn K C C "__init__" = some (some (.builtin "ValueError.__init__"))
  sB : PySem.W.subIn K (.ref C) (.type "ValueError") = some true
  sC : PySem.W.mroIn K C (.ref C) = some true
  no : PySem.W.nsIn K cStatics "thirdparty.any" = some none
  gS : mg "super" = none
  fn : ∃ qual oc od kV doc pm an cda ct cc osl cl cld csl ccl cdd ccs vs file tf, fd = PySem.W.fnX "__init__" qual (defArgs st) (defBody st) (defScope st) [("__class__", cc)] .none kV doc pm an (.ref cda) ct ∧
    K.lookup fI = some ⟨oc, od, .func fd, osl⟩ ∧ PySem.W.codeIn K (.ref cda) qual = true ∧
    K.lookup cc = some ⟨cl, cld, .cell (some (.ref C)), csl⟩ ∧ K.lookup cda = some ⟨ccl, cdd, .fields vs, ccs⟩ ∧ vs[2]? = some (.str file tf) ∧ ((P.main.file : Str) == file) = true
  top : (P.main.scope.names.lookup ("super" : Str)).isSome = false
  arg : ∃ ar, ((defArgs st).posonlyargs ++ (defArgs st).args).head? = some ar ∧ ar.arg = "self"
  body : ∃ p0 p1 p2 p3 p4 p5 p6 p7 p8 p9 m j, defBody st = [.Expr (.Call (.Attribute (.Call (.Name "super" p0) [] [] p1) "__init__" p2) [.Constant (.str m) j p3] [] p4) p5, .Assign [.Attribute (.Name "self" p6) f p7] (.Name f p8) p9] ∧
    (∀ env, ∃ pl : Sem Bool, eval (.Call (.Attribute (.Call (.Name "super" p0) [] [] p1) "__init__" p2) [.Constant (.str m) j p3] [] p4) env = (do
      let ov ← attributeBase (.Call (.Name "super" p0) [] [] p1) "__init__" env (eval (.Call (.Name "super" p0) [] [] p1) env)
      standAt p2.atName
      let (g, first) ← holding [ov] (getMethod ov "__init__" pl)
      callWith p4 g first (backTo p4 (starEach [.Constant (.str m) j p3] env)) [])) ∧
    ∀ env, swapsWith (.Name f p8) (some (.Attribute (.Name "self" p6) f p7)) p9.line env = pure false
  sc : SupS f (defScope st)

/-- the promise: the error gets its dict -/
def sp_sup (C : Addr) (f : Str) : Sp := fun vs H Q _ => ∃ (a : Addr) (v : V), vs = [.ref a, v] ∧ H a = some (exo a C none) ∧ ∀ dx, H dx = none → dx ≠ a → Q .non (upd (upd H dx (exd dx [(f, v)])) a (exo a C (some dx)))

section
variable {P : Program} {w : World} {K : PySem.W.Frag} {mg : Str → Option Value} {base : Heap} {C fI : Addr} {fd : FuncData} {f : Str} {st : Stmt}
/-- the frame of that def -/
def cxSup (P : Program) (w : World) (K : PySem.W.Frag) (mg : Str → Option Value) (base : Heap) (f : Str) (fd : FuncData) (fI : Addr) (A : Around) (out : List Env) (s : Shared) (H : Hp) (xe : Value → Shared → Prop) : Cx where
  prog := P
  w := w
  K := K
  mg := mg
  base := base
  A := A.deeper (callEnv fd s.heap.objs.size fI)
  N := ["self", f]
  s_0 := s
  H_0 := H
  env := callEnv fd s.heap.objs.size fI
  outer := out
  stack := callEnv fd s.heap.objs.size fI :: out
  ex := []
  fn := fun x => decide (x ≠ "__class__")
  calm := true
  pn := []
  xe := xe
theorem look1 {cc c : Addr} {x : Str} (h : ([(("__class__" : Str), cc)] : List (Str × Addr)).lookup x = some c) : x = "__class__" ∧ c = cc := by
  by_cases e : x = ("__class__" : Str)
  · subst e
    have z : some cc = some c := h
    exact ⟨rfl, (Option.some.inj z).symm⟩
  · have e' : (x == ("__class__" : Str)) = false := by simpa using e
    simp [List.lookup, e'] at h
theorem lkA {x f : Str} {u0 u1 : Value} (h : f ≠ x) : List.lookup x [(f, u1), (x, u0)] = some u0 := by
  have e : (x == f) = false := by simpa using Ne.symm h
  simp [List.lookup, e]
theorem lkB {x f : Str} {u0 u1 : Value} : List.lookup f [(f, u1), (x, u0)] = some u1 := by simp [List.lookup]
theorem two_of {vs : List V} {us : List Value} (r : Vals vs us) (hl : us.length = 2) : ∃ u0 u1 v0 v1, us = [u0, u1] ∧ vs = [v0, v1] ∧ RelV v0 u0 ∧ RelV v1 u1 := by
  cases r with
  | nil => cases hl
  | cons r0 r' =>
    cases r' with
    | nil => cases hl
    | cons r1 r'' =>
      cases r'' with
      | nil => exact ⟨_, _, _, _, rfl, rfl, r0, r1⟩
      | cons _ _ => simp at hl
theorem inv_sup {A : Around} {out : List Env} {s : Shared} {H : Hp} {xe : Value → Shared → Prop} {h₀ : Heap} {t : Nat} (S : SupC P K mg C fI fd f st)
    (hd : A.handled = none) (e0 : Env0 P w K mg base A out s H) {u0 u1 : Value} {v0 v1 : V} (r0 : RelV v0 u0) (r1 : RelV v1 u1) (hn : h₀.Ns s.heap.objs.size (fun x => List.lookup x [(f, u1), (("self" : Str), u0)])) (k : ∀ b o, s.heap.get? b = some o → h₀.get? b = some o) :
    Inv (cxSup P w K mg base f fd fI A out s H xe) [] [some v0, some v1] H { s with heap := h₀, toks := t } := by
  obtain ⟨qual, oc, od, kV, doc, pm, an, cda, ct, cc, osl, cl, cld, csl, ccl, cdd, ccs, us', file, tf, rfl, h2, h3, h4, _⟩ := S.fn
  have SC := S.sc
  have hK : K.In s.heap := e0.mod.kin.keeps fun b o e => (e0.bs b o e).1
  have hcc := e0.mod.kin _ _ h4
  have noA : ∀ b : Addr, b ∉ (cxSup P w K mg base f (PySem.W.fnX "__init__" qual (defArgs st) (defBody st) (defScope st) [("__class__", cc)] .none kV doc pm an (.ref cda) ct) fI A out s H xe).ex := fun b z => absurd (show b ∈ ([] : List Addr) from z) (by simp)
  refine ⟨⟨e0.mod, SC.kind, rfl, rfl, Nat.le_refl _, fun y z c h1 h2 => ?_, fun y hy => ?_, fun y c hy h => ?_, fun _ => hd, Around.frames_deeper e0.frames, .inr ⟨rfl, rfl⟩, fun b z => absurd z (noA b), e0.bs, e0.bsz, fun b _ _ => noA b, fun b z => absurd z (noA b), e0.funs, e0.frf⟩,
    rfl, e0.bare, Un.kept k, ⟨_, hn, fun i y v h1 h2 h3 => ?_⟩, fun y c h => ?_, e0.hok.fresh (Nat.le_refl _), fun y c h => ?_, fun p hp => absurd (show p ∈ ([] : List (Addr × Obj)) from hp) (by simp), e0.hok.kept k, ?_⟩
  · rw [(look1 h1).1, (look1 h2).1]
  · have hy : (defScope st).names.lookup y = some .cell ∨ (defScope st).names.lookup y = some .free := hy
    rcases hy with hy | hy
    · exact absurd rfl (SC.nocell _ (PySem.mem_of_lookup hy))
    · have e : y = ("__class__" : Str) := SC.free _ (PySem.mem_of_lookup hy) rfl
      rw [e]
      exact ⟨cc, rfl⟩
  · have e := (look1 h).1
    exact absurd e (of_decide_eq_true hy)
  · match i, h1, h2 with
    | 0, h1, h2 =>
      have ey := Option.some.inj h1
      have ev := Option.some.inj (Option.some.inj h2)
      subst ey ev
      exact ⟨u0, r0, .inl ⟨SC.self, lkA SC.fs⟩⟩
    | 1, h1, h2 =>
      have ey := Option.some.inj h1
      have ev := Option.some.inj (Option.some.inj h2)
      subst ey ev
      exact ⟨u1, r1, .inl ⟨SC.field, lkB⟩⟩
    | i + 2, h1, h2 => cases h1
  · obtain ⟨e1, e2⟩ := look1 h
    subst e1 e2
    exact ⟨_, _, k _ _ (e0.bs _ _ hcc).1, rfl⟩
  · obtain ⟨e1, e2⟩ := look1 h
    subst e1 e2
    exact (e0.bs _ _ hcc).2
  · rfl
/-- ValueError.__init__ held by a method-wrapper, called: the error stays one -/
theorem wrap_call {X : Cx} {pins : List (Addr × Obj)} {σ : L2.St} {H : Hp} {s : Shared} {u a : Addr} {v : Value} {Q : Value → Shared → Prop} {E : Value → Shared → Prop} (T : OexC X.K C) (I : Inv X pins σ H s) (hu : s.heap.get? u = some (PySem.W.kxs_mw "ValueError.__init__" a)) (e : H a = some (exo a C none))
    (k : ∀ s', Inv X pins σ H s' → Q .none s') : wpAny (model X.prog X.w) X.A (call (.ref u) [v]) Q E s := by
  obtain ⟨nm, q, N, bs, bm, sn, sub, ab, col, dd, k0, k1, k2, k3, k5, hC, hbm⟩ := T.cls
  obtain ⟨t1, ho⟩ := exo_at I.hok e
  have hCs := I.kIn _ _ hC
  obtain ⟨hh, g, d, tk, os⟩ := s
  have nmeth : (Value.type "method-wrapper" == Value.type "method" || Value.type "method-wrapper" == Value.type "builtin_function_or_method" || Value.type "method-wrapper" == Value.type "method-wrapper") = true := by decide
  refine wpAny_call (codeAny_of_tree ?_)
  show wpAny _ X.A.in1 (callAny (.ref u) ⟨[v], []⟩) _ _ _
  simp only [callAny]
  refine wpAny_bind (wpAny_load hu ?_)
  simp only [PySem.W.kxs_mw, nmeth, if_true]
  refine PySem.W.KFB.if_so (by decide) ?_
  refine wpAny_bind (PySem.W.check_bound_init F.excBase_ValueError.toExcCallFacts hCs ho rfl ?_)
  refine wpAny_bind (wpAny_pure (wpAny_pure ⟨plainId_quiet F.excBase_ValueError.init.plain _, codeAny_builtin F.excBase_ValueError.initEntry ?_⟩))
  have go : ∀ h', (∀ b o, b ≠ a → hh.get? b = some o → h'.get? b = some o) → h'.get? a = some (PySem.W.excObj C hh.objs.size none .none) → Q .none ⟨h', g, d, tk, os⟩ := fun h' kk hx => by
    have J := I.write (t' := tk) (x := a) (e := a) (o := exo a C none) (by rw [e]; exact True.intro) (.inl rfl) kk ⟨_, hx⟩ (exo_ok hx)
    have eu : upd H a (exo a C none) = H := by
      funext b
      by_cases hb : b = a
      · rw [hb, upd_same, e]
      · rw [upd_ne hb]
    rw [eu] at J
    exact k _ J
  exact PySem.W.exc_init_tree (cls := .ref C) (t0 := t1) (dv := none) (c2 := .none) (c3 := .none) (b4 := .bool false) ho (by show 1 ≤ sizeLine; rw [sizeLine_eq]; omega) fun h' kk hx _ => go h' kk hx

theorem sup_ok (S : SupC P K mg C fI fd f st) : FnOk P w K mg base CX0 1 fI fd ["self", f] (sp_sup C f) := by
  refine ⟨fun vs H Q E ⟨a, v, e, _⟩ => by rw [e]; rfl, ?_⟩
  intro A out s H args us vs Q E hr e0 hb rv hsp
  obtain ⟨a, v, rfl, ea, q⟩ := hsp
  obtain ⟨u0, u1, v0, v1, rfl, ev, r0, r1⟩ := two_of rv (by rw [← rv.length]; rfl)
  obtain rfl : v0 = V.ref a := (List.cons.inj ev).1.symm
  obtain rfl : v1 = v := ((List.cons.inj (List.cons.inj ev).2).1).symm
  obtain rfl : u0 = Value.ref a := r0
  have SC := S.sc
  have hK : K.In s.heap := e0.mod.kin.keeps fun b o e => (e0.bs b o e).1
  have noL : s.heap.NoLimit := e0.mod.nolimit.keeps fun b o e => (e0.bs b o e).1
  obtain ⟨qual, oc, od, kV, doc, pm, an, cda, ct, cc, osl, cl, cld, csl, ccl, cdd, ccs, ws, file, tf, efd, h2, h3, h4, h5, h6, h7⟩ := S.fn
  have hkk : fd.scope.kind = .function := by rw [efd]; exact SC.kind
  have bz : ((["self", f] : List Str).zip [Value.ref a, u1]) = [(("self" : Str), Value.ref a), (f, u1)] := rfl
  rw [bz] at hb
  refine ks_codeAny_call_defAt (fd := fd) (body := defBody st) (binds := [(("self" : Str), Value.ref a), (f, u1)]) hr.depth (hK _ _ h2) rfl noL (by rw [efd]; exact PySem.W.codeRec_of hK h3) (by rw [efd]) hb (by rw [efd]; exact SC.nocell) ?_ (fun h₀ hn k => ?_) (by rw [efd]; exact SC.co) (by rw [efd]; exact SC.gen) hkk
  · intro y hy
    rw [efd]
    rcases List.mem_cons.mp hy with e | hy
    · rw [e]
      exact SC.self
    · rw [List.mem_singleton.mp hy]
      exact SC.field
  have I := inv_sup (base := base) (w := w) (f := f) (fd := fd) (A := A) (out := out) (h₀ := h₀) (t := s.toks + 2) (xe := fun e s' => wpAny (model P w) (A.deeper (callEnv fd s.heap.objs.size fI)) (leaving (callEnv fd s.heap.objs.size fI) e) (fun _ s'' => CR CX0 out P w H s Q E (.error e) s'') (fun e' s'' => CR CX0 out P w H s Q E (.error e') s'') s') S hr.hd e0 (u0 := Value.ref a) (v0 := V.ref a) rfl r1 hn k
  generalize hX : cxSup P w K mg base f fd fI A out s H _ = X at I
  have xP : X.prog = P := by rw [← hX]; rfl
  have xw : X.w = w := by rw [← hX]; rfl
  have xK : X.K = K := by rw [← hX]; rfl
  have xm : X.mg = mg := by rw [← hX]; rfl
  have xA : X.A = A.deeper (callEnv fd s.heap.objs.size fI) := by rw [← hX]; rfl
  have xe : X.env = callEnv fd s.heap.objs.size fI := by rw [← hX]; rfl
  have xN : X.N = [("self" : Str), f] := by rw [← hX]; rfl
  have sc : X.env.scope = defScope st := by rw [xe, efd]; rfl
  have cl : X.env.cells = [(("__class__" : Str), cc)] := by rw [xe, efd]; rfl
  have fin : ∀ (fl : Flow) (s' : Shared), SP X [] { nx := fun _ H' => Q .non H', rt := Q } fl s' → CR CX0 out P w H s Q E (.ok (.ret (match fl with | .ret v => v | _ => .none))) s' := fun fl s' hs => by
    have un : ∀ {σ' : L2.St} {H' : Hp}, Inv X [] σ' H' s' → s'.os = s.os ∧ AllBare s'.gens ∧ Un (frs out) [] H H' s.heap s'.heap ∧ HOk P w H' s'.heap := fun J => by
      subst hX
      exact ⟨J.os, J.bare, J.base, J.hok⟩
    cases fl with
    | next =>
      obtain ⟨σ', H', J, q'⟩ := hs
      obtain ⟨a1, a2, a3, a4⟩ := un J
      exact ⟨.non, H', a1, a2, a3, a4, rfl, q'⟩
    | ret u =>
      obtain ⟨v', σ', H', J, rr, q'⟩ := hs
      obtain ⟨a1, a2, a3, a4⟩ := un J
      exact ⟨v', H', a1, a2, a3, a4, rr, q'⟩
    | brk =>
      obtain ⟨_, _, _, q'⟩ := hs
      exact q'.elim
    | cont =>
      obtain ⟨_, _, _, q'⟩ := hs
      exact q'.elim
  have xx : X.xe = fun e s' => wpAny (model P w) (A.deeper (callEnv fd s.heap.objs.size fI)) (leaving (callEnv fd s.heap.objs.size fI) e) (fun _ s'' => CR CX0 out P w H s Q E (.error e) s'') (fun e' s'' => CR CX0 out P w H s Q E (.error e') s'') s' := by rw [← hX]; rfl
  refine ks_wpAt_mono (Q := SP X [] { nx := fun _ H' => Q .non H', rt := Q }) (E := X.xe) ?_ (fun fl s' hs => fin fl s' hs) (fun e s' hs => by rw [xx] at hs; exact hs)
  rw [← xA, ← xe, ← xP, ← xw]
  clear fin xx
  have hcc := e0.mod.kin _ _ h4
  obtain ⟨p0, p1, p2, p3, p4, p5, p6, p7, p8, p9, m, j, eb, ehe, esw⟩ := S.body
  obtain ⟨pl, he⟩ := ehe X.env
  have hsw := esw X.env
  obtain ⟨ar, har, ear⟩ := S.arg
  rw [eb]
  have hKX := I.kIn
  rw [xK] at hKX
  have hks : X.env.kindOf "super" = some .globalImplicit := by
    show X.env.scope.names.lookup _ = _
    rw [sc]
    exact SC.sup
  have hkc : X.env.kindOf "__class__" = some .free := by
    show X.env.scope.names.lookup _ = _
    rw [sc]
    exact SC.cls
  have hkse : X.env.kindOf "self" = some .local := by
    show X.env.scope.names.lookup _ = _
    rw [sc]
    exact SC.self
  have hlv : X.env.scope.kind = .function := I.ok.kind
  obtain ⟨mL, hnL, hlook⟩ := I.loc
  have hself : mL "self" = some (Value.ref a) := by
    obtain ⟨u, ru, q'⟩ := hlook 0 "self" (.ref a) (by rw [xN]; rfl) rfl (.inl hkse)
    obtain rfl : u = Value.ref a := ru
    rcases q' with ⟨_, e⟩ | ⟨hk', _⟩
    · exact e
    · rcases hk' with hk' | hk' <;> (rw [hkse] at hk'; cases hk')
  obtain ⟨t1, ho⟩ := exo_at I.hok ea
  obtain ⟨nm, qc, Nc, bs, bm, sn, sub, ab, col, dd, k0, k1, k2, k3, k5, hC, hbm⟩ := S.ox.cls
  have hCs := hKX _ _ hC
  have hfi := hKX _ _ h2
  have efn : X.env.func = some fI := by rw [xe, efd]; rfl
  have eco : X.env.code = .ref cda := by rw [xe, efd]; rfl
  refine ks_wpAt_execs_cons (ks_wpAt_Expr_any (ks_wpAt_MethodCall (pl := pl) ?_ he) I.quiet)
  refine ks_wpAt_super_base (of := ⟨oc, od, .func fd, osl⟩) (fd := fd) (ar := ar) hks hkc rfl efn hfi rfl (by rw [efd]; exact har) eco (hKX _ _ h5) rfl h6 (by rw [xP]; exact h7) (by rw [xP]; exact S.top) ?_
  refine PySem.W.ks_loadName_global hlv hks (Calls.loadGlobal_builtin (by rw [I.ok.glob]; exact I.mod.glob.keeps I.bk) (by rw [xm]; exact S.gS) (by rw [I.ok.blt]; exact I.mod.blt.choose_spec.1.keeps I.bk) ((I.mod.blt.choose_spec.2 _ (by decide)).trans (by decide +kernel)) ⟨rfl, ?_⟩)
  have hcl : X.env.cells.lookup ("__class__" : Str) = some cc := by rw [cl]; rfl
  refine wpAny_loadName_free hlv hkc hcl ⟨_, hKX _ _ h4, rfl⟩ ?_
  rw [ear]
  refine wpAny_loadName_local hlv hkse hnL hself ?_
  refine ks_wpAny_isType_cls hCs rfl ⟨rfl, ?_⟩
  refine ks_wpAny_call_super hCs rfl ho rfl (fun c z => by cases z) (PySem.W.looks_mroIn hKX S.sC) (fun h' e' k' => ?_)
  have hcd : PySem.W.clsIn K C = some { name := nm, bases := bs, mro := .ref C :: bm, ns := Nc, qualname := qc, hasDict := true, slotNames := sn, subclasses := sub, abstract := ab, collection := col, hasDel := false } := by
    unfold PySem.W.clsIn
    rw [hC] <;> rfl
  have hup := S.up
  unfold PySem.W.ks_superIn at hup
  rw [hcd] at hup
  have I1 : Inv X [] [some (.ref a), some v1] H { heap := h', gens := s.gens, drawn := s.drawn, toks := s.toks + 2, os := s.os } := I.kept (t' := s.toks + 2) k'
  have hK1 := I1.kIn
  rw [xK] at hK1
  have hI : PySem.W.Looks (model X.prog X.w) h' (isInstance (.ref a) (.type "ValueError")) true := (PySem.W.InstAt.type (od := none) ⟨k' _ _ ho, rfl, rfl, trivial⟩).andThen (PySem.W.looks_subIn hK1 S.sB)
  have aC : a ≠ C := fun z => by
    rw [z] at ho
    rw [ho] at hCs
    cases hCs
  refine PySem.W.kxs_getMethod PySem.W.kxs_ValueError e' (PySem.W.looks_opaque hK1 S.no) (l₀ := .ref C :: bm) (fun A Q E s k q => wpAny_bind ((PySem.W.looks_clsIn hK1 hcd) A _ E s k (wpAny_pure q))) rfl hK1 hup hI aC (by decide) ?_
  have I2 : Inv X [(h'.objs.size, PySem.W.kxs_mw "ValueError.__init__" a)] [some (.ref a), some v1] H { heap := h'.push (PySem.W.kxs_mw "ValueError.__init__" a), gens := s.gens, drawn := s.drawn, toks := s.toks + 2 + 1, os := s.os } := by
    refine (I1.kept (t' := s.toks + 2 + 1) (h' := h'.push (PySem.W.kxs_mw "ValueError.__init__" a)) fun b o z => Heap.get?_push_of_some _ z).pins_of fun p hp => ?_
    rw [List.mem_singleton.mp hp]
    exact ⟨Heap.get?_push_size _ rfl, I1.hok.fresh (Nat.le_refl _), Nat.ne_of_gt I1.lt, I1.nofs (Nat.le_refl _), fun v z => by cases z⟩
  refine PySem.W.kxs_callWith (i := "ValueError.__init__") (x := a) rfl (PySem.Calls.evalArgs_plain (thn ((pa_cons pe_str pa_nil : PA X [.Constant (.str m) j p3] _).run p4 _ _ _ H (fun vs H1 => vs = [V.str m] ∧ H1 = H) I2 ⟨rfl, rfl⟩) fun us s3 hh => ?_))
  obtain ⟨vs3, H3, I3, r3, rfl, rfl⟩ := hh
  obtain ⟨u3, rfl, _⟩ := vals1 r3
  have hpin := (I3.pin (h'.objs.size, PySem.W.kxs_mw "ValueError.__init__" a) (List.mem_append_right _ List.mem_cons_self)).1
  refine ⟨hpin, wrap_call (by rw [xK]; exact S.ox) I3 hpin ea fun s4 J => ?_⟩
  have J' : Inv X [] [some (.ref a), some v1] H3 s4 := J.pins_of fun p hp => nomatch hp
  refine wpAt_of_wpAny ((pss_one (ps_ost (X := X) (pe_var (i := 0) (by rw [xN]; rfl) (.inl hkse) (by decide) (by decide)) (pe_var (i := 1) (by rw [xN]; rfl) (.inl (by rw [sc]; exact SC.field)) SC.fd SC.fc) hsw)).run [] s4 _ H3 _ J' ?_)
  exact ⟨v1, rfl, .ref a, rfl, a, C, rfl, by rw [xK]; exact S.ox, by rw [xK]; exact S.nf, .inl ⟨ea, fun dx n ne => q dx n ne⟩⟩
end
end Bk
namespace Bk
open PySem PySem.Spec PyProof.Rows L2 Evl
/-! ### an error class of the program, and what is known of it -/
structure ErrK (K : PySem.W.Frag) (mg : Str → Option Value) (nm : Str) (C : Addr) : Prop where
  g : mg nm = some (.ref C)
  k : PySem.W.keepIn K (.ref C) = true
  t : PySem.W.typeIn K (.ref C) = some (.type "type")
  s : PySem.W.subIn K (.ref C) (.ref C) = some true
  v : PySem.W.subIn K (.ref C) (.type "ValueError") = some true
  ex : ExcC K C
theorem err_mk {K : PySem.W.Frag} {h : Heap} {mg : Str → Option Value} {nm : Str} {C : Addr} (X : K.In h) (G : h.Ns mainGlobals mg) (a : PySem.W.nsIn K mainGlobals nm = some (some (.ref C))) (k : PySem.W.keepIn K (.ref C) = true)
    (t : PySem.W.typeIn K (.ref C) = some (.type "type")) (s : PySem.W.subIn K (.ref C) (.ref C) = some true) (v : PySem.W.subIn K (.ref C) (.type "ValueError") = some true)
    (e1 : PySem.W.findIn K (.ref C) "__getattribute__" = some (some (.builtin "BaseException.__getattribute__"))) (e2 : PySem.W.findIn K (.ref C) "__getattr__" = some none) (e3 : PySem.W.subIn K (.ref C) (.type "BaseException") = some true) (e4 : PySem.W.hasDictIn K C = true)
    (e5 : PySem.W.findIn K (.ref C) "__class__" = some (some (.builtin "object.__class__"))) (e6 : PySem.W.specialIn K (.builtin "object.__class__") "__get__" = some (some (.builtin "getset_descriptor.__get__"))) (e7 : PySem.W.takesIn K (.builtin "object.__class__") = some true)
    (e8 : PySem.W.mroIn K C (.type "object") = some true) : ErrK K mg nm C :=
  ⟨PySem.W.mg_of X G a, k, t, s, v, ⟨e1, e2, e3, e4, e5, e6, e7, e8⟩⟩
section
variable {K : PySem.W.Frag} {mg : Str → Option Value} {nm nd : Str} {C D : Addr} {b : Bool}
theorem ErrK.cls (x : ErrK K mg nm C) : (PySem.W.clsIn K C).isSome = true := by
  obtain ⟨cd, hc, _⟩ := PySem.W.any_some x.ex.hd
  rw [hc]
  rfl
/-- an error of D where C is named by a clause -/
theorem ErrK.exm (x : ErrK K mg nm C) (h : PySem.W.subIn K (.ref D) (.ref C) = some b) : PySem.W.exmOne K (.ref D) (.ref C) = some b := PySem.W.exm_ref x.ex.hs x.ex.hd x.t h
theorem ErrK.kit (x : ErrK K mg nm C) (h : PySem.W.subIn K (.ref D) (.ref C) = some b) : PySem.W.kitOne K (.ref D) (.ref C) = some b := by
  unfold PySem.W.kitOne
  by_cases e : D = C
  · subst e
    rw [if_pos (by simp), ← h, x.s]
  · rw [if_neg (by simpa using e)]
    show (if ((PySem.W.clsIn K C).isSome && PySem.W.typeIn K (.ref C) == some (.type "type")) = true then PySem.W.subIn K (.ref D) (.ref C) else none) = some b
    rw [x.cls, x.t, h]
    rfl
theorem ErrK.kitV (x : ErrK K mg nm C) : PySem.W.kitOne K (.ref C) (.type "ValueError") = some true := by
  unfold PySem.W.kitOne
  rw [if_neg (by simp)]
  show (if PySem.W.kitMeta "ValueError" = true then _ else none) = some true
  rw [if_pos (by decide +kernel)]
  exact x.v
theorem ErrK.kitN (x : ErrK K mg nm C) : PySem.W.kitOne K (.type "NoneType") (.ref C) = some false := by
  unfold PySem.W.kitOne
  rw [if_neg (by simp)]
  show (if ((PySem.W.clsIn K C).isSome && PySem.W.typeIn K (.ref C) == some (.type "type")) = true then PySem.W.subIn K (.type "NoneType") (.ref C) else none) = some false
  rw [x.cls, x.t]
  have e : PySem.fastBuiltinMro "NoneType" = some [Value.type "NoneType", Value.type "object"] := by decide +kernel
  show (PySem.fastBuiltinMro "NoneType").map (·.contains (.ref C)) = some false
  rw [e]
  rfl
theorem kb_none_value : kitB "NoneType" "ValueError" = some false := by decide +kernel
end
/-! ### raise C(e), C with the __init__ of P19 -/
section
variable {X : Cx} {C fI : Addr} {fd : FuncData} {f x : Str} {st : Stmt} {e : Expr} {te : TE} {p pos : Pos}
theorem pmk_sup (S : SupC X.prog X.K X.mg C fI fd f st) (hb : Binds X.K fd ["self", f] []) (hr : Room 2 X.A) (hg : Gl X x) (hm : X.mg x = some (.ref C)) (ha : PA X [e] (tCons te tNil)) (hdb : (x == ("__debug__" : Str)) = false := by decide)
    (hst : starEach [e] X.env = (false, eval e X.env) :: starEach [] X.env := by rfl) : PMk X (.Call (.Name x p) [e] [] pos) (tMkO C (sp_sup C f) [] (tCons te tNil)) :=
  pmk_oex (CX := CX0) (k := 1) S.ox S.iC S.tI (sup_ok S) hr hb .nil (fun _ _ _ _ _ _ _ z => z.elim) hg hm ha hdb hst rfl
theorem mk_ev {σ : L2.St} {H : Hp} {v : V} {Q : XK} (h : Ev te σ H v) (q : ∀ H1 d, Ex H H1 → H1 d = none → Q (.ref C) (some d) (upd H1 d (.xd [(f, v)]))) : tMkO C (sp_sup C f) [] (tCons te tNil) σ H Q :=
  h H (Ex.refl H) _ fun H1 e1 => ⟨by show 1 ≤ 1000; decide, fun a ha => ⟨a, v, rfl, upd_same, fun dx hdx ne => ⟨rfl, dx, [(f, v)], upd_same, by rw [upd_ne ne, upd_same], by rw [upd_ne ne] at hdx; exact hdx, by
    have hd : H1 dx = none := by rw [upd_ne ne] at hdx; exact hdx
    have eq : upd (del (upd (upd (upd H1 a (exo a C none)) dx (exd dx [(f, v)])) a (exo a C (some dx))) a) dx (.xd [(f, v)]) = upd H1 dx (.xd [(f, v)]) := by
      funext b
      by_cases c : b = dx
      · rw [c, upd_same, upd_same]
      · rw [upd_ne c, upd_ne c]
        by_cases c2 : b = a
        · rw [c2, del_same, ha]
        · rw [del_ne c2, upd_ne c2, upd_ne c, upd_ne c2]
    rw [eq]
    exact q H1 dx e1 hd⟩⟩⟩
end
/-! ### an error that was caught and is kept -/
def ExK (cls : Value) (d : Option Addr) (a : Addr) : HO := .ext fun h => ∃ (oe : Obj) (vs : Array Value), h.get? a = some oe ∧ Zc cls d oe ∧ oe.data = .fields vs
theorem exk_ok {P : Program} {w : World} {H : Hp} {h : Heap} {a : Addr} {cls : Value} {d : Option Addr} {oe : Obj} {vs : Array Value} (e : h.get? a = some oe) (z : Zc cls d oe) (hd : oe.data = .fields vs) : ObjOk P w H h a (ExK cls d a) :=
  ⟨⟨oe, vs, e, z, hd⟩, ⟨oe, e⟩, fun _ _ ⟨o, v, q, r⟩ k => ⟨o, v, k o q, r⟩⟩
theorem exk_at {P : Program} {w : World} {H : Hp} {h : Heap} {a : Addr} {cls : Value} {d : Option Addr} (hok : HOk P w H h) (e : H a = some (ExK cls d a)) : ∃ (oe : Obj) (vs : Array Value), h.get? a = some oe ∧ Zc cls d oe ∧ oe.data = .fields vs := by
  have x : ObjOk P w H h a (.ext fun h => ∃ (oe : Obj) (vs : Array Value), h.get? a = some oe ∧ Zc cls d oe ∧ oe.data = .fields vs) := hok a _ e
  exact x.1
section
variable {X : Cx} {pins : List (Addr × Obj)} {σ : L2.St} {H : Hp} {s : Shared}
/-- an object that nobody tracks is taken up -/
theorem adopt {a : Addr} {oe : Obj} {vs : Array Value} {cls : Value} {d : Option Addr} (I : Inv X pins σ H s) (ha : s.heap.get? a = some oe) (z : Zc cls d oe) (hd : oe.data = .fields vs) (na : H a = none) (n0 : X.s_0.heap.get? a = none) (nL : a ≠ X.env.locals)
    (nP : ∀ p ∈ X.pn ++ pins, p.1 ≠ a) : Inv X pins σ (upd H a (ExK cls d a)) s := by
  have ne : ∀ {b : Addr} {o : HO}, H b = some o → b ≠ a := fun q => ne_of_none q na
  refine ⟨I.ok, I.os, I.bare, ⟨I.base.keep, I.base.slot, fun b o q n x => ?_, I.base.there, fun b xs q => ?_, fun b o u q => ?_, fun b ps q => ?_⟩, I.loc, I.cell, ?_, fun x c h => ?_, fun p hp => ?_, fun b o q => ?_, I.len⟩
  · rw [upd_ne fun z => by rw [z, n0] at q; cases q]
    exact I.base.free b o q n x
  · have r := I.base.tups b xs q
    rw [upd_ne (ne r)]
    exact r
  · have r := I.base.frzs b o u q
    rw [upd_ne (ne r)]
    exact r
  · obtain ⟨more, r⟩ := I.base.tbls b ps q
    exact ⟨more, by rw [upd_ne (ne r)]; exact r⟩
  · rw [upd_ne nL.symm]
    exact I.free
  · obtain ⟨v, o, ho, hv⟩ := I.cell x c h
    rw [upd_ne fun z => by
      rw [z, ha] at ho
      cases ho
      rw [hd] at hv
      cases hv]
    exact I.freeC x c h
  · obtain ⟨p1, p2, p3⟩ := I.pin p hp
    exact ⟨p1, by rw [upd_ne (nP p hp)]; exact p2, p3⟩
  · by_cases c : b = a
    · subst c
      rw [upd_same] at q
      cases q
      exact exk_ok ha z hd
    · rw [upd_ne c] at q
      exact (I.hok b o q).stay (fun _ _ _ r => r) (fun e r => by rw [upd_ne (ne r)]; exact r) fun e xs r => by rw [upd_ne (ne r)]; exact r
theorem suite0 (I : Inv X pins σ H s) (a : Addr) : Inv (X.suite a (X.pn ++ pins)) [] σ H s :=
  ⟨I.ok.suite _ _, I.os, I.bare, I.base, I.loc, I.cell, I.free, I.freeC, fun p hp => I.pin p (by rw [List.append_nil] at hp; exact hp), I.hok, I.len⟩
theorem unsuite0 {a : Addr} {pn' : List (Addr × Obj)} (I : Inv (X.suite a (X.pn ++ pins)) pn' σ H s) (ok : X.Ok) : Inv X pins σ H s :=
  ⟨ok, I.os, I.bare, I.base, I.loc, I.cell, I.free, I.freeC, fun p hp => I.pin p (List.mem_append_left _ hp), I.hok, I.len⟩
end
/-- what 'except x as n: suite' wishes where the error is kept -/
def wKept (K : PySem.W.Frag) (c : Value) (i : Nat) (ts : TS) (Wout : WX) (D : Ends) : WX := fun cls d σ H =>
  ∃ b, PySem.W.exmOne K cls c = some b ∧ (b = true → ∀ a, H a = none → ts { nx := fun σ' H' => D.nx (σ'.set i none) H', rt := D.rt, bk := fun σ' H' => D.bk (σ'.set i none) H', ct := fun σ' H' => D.ct (σ'.set i none) H' } (σ.set i (some (.ref a))) (upd H a (ExK cls d a))) ∧
    (b = false → Wout cls d σ H)
section
variable {X : Cx} {x n : Str} {c : Value} {i : Nat} {body suite : List Stmt} {first : Stmt} {np pos pos' : Pos} {tb : WX → TS} {ts : TS} {Wout : WX}
theorem ps_try_kept (hs : X.stack = X.env :: X.outer) (hf : X.env.frame = some X.env.locals) (hex : X.ex = []) (hN : X.N.Nodup) (hi : X.N[i]? = some n) (hln : X.env.kindOf n = some .local) (hc : Names X x c) (tk : Takes X Wout)
    (hb : ∀ (W : WX) (pn : List (Addr × Obj)) (xe : Value → Shared → Prop), Takes (X.tr pn xe) W → PassesOwn (model X.prog X.w) X.A X.env xe → PSs (X.tr pn xe) body (tb W))
    (hsu : ∀ (a : Addr) (pn : List (Addr × Obj)), PSs (X.suite a pn) (first :: suite) ts) :
    PS X (.Try body [.ExceptHandler (some (.Name x np)) (some n) (first :: suite) pos'] [] [] pos) (fun D σ H => tb (wKept X.K c i ts Wout D) D σ H) := by
  refine ⟨fun pins s σ H D I h => ?_⟩
  have ok0 := I.ok
  have frm : X.A.frames = some (X.env :: X.outer) := by rw [ok0.frames, hs]
  have isLoc : Loc X.env.scope n := .inl hln
  refine wpAny_Try_except ?_
  have run := (hb (wKept X.K c i ts Wout D) (X.pn ++ pins) (fun ev t1 => wpAny (model X.prog X.w) X.A (noteFrame ev X.env) (fun _ t2 => wpAny (model X.prog X.w) X.A (setFlight ev none) (fun _ t3 =>
    wpAny (model X.prog X.w) X.A (handleBy ev X.env [.ExceptHandler (some (.Name x np)) (some n) (first :: suite) pos']) (SP X pins D) X.xe t3) X.xe t2) X.xe t1) (fun u t' air => ?_) PassesOwn.looking).run [] s σ H D (I.toTry _) h
  · refine wpAny_mono run (fun fl t1 hfl => ?_) (fun _ _ he => he)
    cases fl with
    | next =>
      obtain ⟨σ', H', J, q⟩ := hfl
      exact wpAny_execs_nil ⟨σ', H', J.ofTry ok0, q⟩
    | brk =>
      obtain ⟨σ', H', J, q⟩ := hfl
      exact ⟨σ', H', J.ofTry ok0, q⟩
    | cont =>
      obtain ⟨σ', H', J, q⟩ := hfl
      exact ⟨σ', H', J.ofTry ok0, q⟩
    | ret u =>
      obtain ⟨v, σ', H', J, r, q⟩ := hfl
      exact ⟨v, σ', H', J.ofTry ok0, r, q⟩
  · obtain ⟨a, B, sJ, pins', σ', H', cls, d, rfl, Jt, nb, up, sky, na, eos, bare, b, hb1, hyes, hno⟩ := air
    have J : Inv X pins σ' H' sJ := Jt.ofTry ok0
    have skyE : Sky B (X.env :: X.outer) a (Zc cls d) X.env.locals t'.heap := by rw [← hs]; exact sky
    show wpAny (model X.prog X.w) X.A (noteFrame (.ref a) X.env) _ _ _
    refine Sky.land Zc.steady frm hf skyE fun g3 f3 u3 => ?_
    have J3 : Inv X pins σ' H' { t' with heap := g3 } := J.landed nb f3.1 (up.trans u3) eos bare
    obtain ⟨o3, v3, ho3, hz3, hd3⟩ := f3.there
    have notIn : ∀ {hh : Heap} {o : Obj} {vs : Array Value}, hh.FunFrames B (X.env :: X.outer) → hh.get? a = some o → o.data = .fields vs → a ∉ frs (X.env :: X.outer) := fun {hh o vs} ff e dd hm => by
      obtain ⟨_, o', e', nf⟩ := ff.mem hm
      rw [e] at e'
      cases e'
      exact nf _ dd
    have nfr := notIn f3.2.2.1 ho3 hd3
    have nL : a ≠ X.env.locals := fun z => nfr (List.mem_filterMap.mpr ⟨X.env, List.mem_cons_self, by rw [hf, z]⟩)
    have nJ : sJ.heap.get? a = none := by
      cases q : sJ.heap.get? a with
      | none => rfl
      | some o =>
        have r := nb a o q (by rw [show frs (X.tr (X.pn ++ pins) _).stack = frs (X.env :: X.outer) by rw [← hs]]; exact nfr)
        rw [f3.2.1] at r
        cases r
    have n0 : X.s_0.heap.get? a = none := by
      cases q : X.s_0.heap.get? a with
      | none => rfl
      | some o =>
        obtain ⟨o', r⟩ := J.base.there a o q (by rw [hex]; exact List.not_mem_nil)
        rw [nJ] at r
        cases r
    have nP : ∀ p ∈ X.pn ++ pins, p.1 ≠ a := fun p hp z => by
      have r := (J.pin p hp).1
      rw [z, nJ] at r
      cases r
    refine wpAny_handleBy_cons (codeAny_handlers_test ?_) (by intro q; cases q)
    have lt : PySem.W.Looks (model X.prog X.w) g3 (typeOf (.ref a)) cls := fun A Q E s k q => wpAny_typeOf_ref (k _ _ ho3) (by rw [hz3.1]; exact q)
    have lm := PySem.W.exm_one (M := model X.prog X.w) (J3.kIn) lt hb1
    have S3 := suite0 J3 a
    have asks : ∀ {Q : Value → Shared → Prop} {E : Value → Shared → Prop}, Q c { t' with heap := g3 } → wpAny (model X.prog X.w) (X.A.mark (some (.ref a))) (eval (.Name x np) X.env) Q E { t' with heap := g3 } := fun {Q E} q => by
      obtain ⟨hg, hdbg, hm | ⟨hm, hv, hnn⟩⟩ := hc
      · exact ld_glob (X := X.suite a (X.pn ++ pins)) S3 hg hm q hdbg
      · exact ld_blt (X := X.suite a (X.pn ++ pins)) S3 hg hm hv q hnn hdbg
    refine asks (lm.here ?_)
    cases b with
    | true =>
      refine codeAny_handlers_suite_as ?_
      refine HandSPX.lands_againZ f3 fun g4 f4 u4 => ?_
      have J4 : Inv X pins σ' H' { t' with heap := g4 } := J.landed nb f4.1 ((up.trans u3).trans u4) eos bare
      obtain ⟨o4, v4, ho4, hz4, hd4⟩ := f4.there
      have S4 := suite0 (adopt J4 ho4 hz4 hd4 na n0 nL nP) a
      refine store_ok (X := X.suite a (X.pn ++ pins)) (v := .ref a) S4 hN hi isLoc rfl (fun s5 S5 => ?_) (.inr hln)
      refine wpAny_mono ((hsu a (X.pn ++ pins)).run [] s5 _ _ _ S5 (hyes rfl a na)) (fun fl s6 hfl => ?_) (fun _ _ z => False.elim z)
      have away : ∀ {σ6 : L2.St} {H6 : Hp} {Q : Shared → Prop}, Inv (X.suite a (X.pn ++ pins)) [] σ6 H6 s6 → (∀ s7, Inv X pins (σ6.set i none) H6 s7 → Q s7) →
          wpAny (model X.prog X.w) X.A (do bindName X.env n .none; unbindBehindTheSuite X.env n pos') (fun _ s7 => Q s7) X.xe s6 := fun {σ6 H6 Q} S6 hq => gone_ok (unsuite0 S6 ok0) hN hi hln hq
      cases fl with
      | next =>
        obtain ⟨σ6, H6, S6, q6⟩ := hfl
        exact away S6 fun s7 J7 => ⟨_, _, J7, q6⟩
      | brk =>
        obtain ⟨σ6, H6, S6, q6⟩ := hfl
        exact away S6 fun s7 J7 => ⟨_, _, J7, q6⟩
      | cont =>
        obtain ⟨σ6, H6, S6, q6⟩ := hfl
        exact away S6 fun s7 J7 => ⟨_, _, J7, q6⟩
      | ret u =>
        obtain ⟨v6, σ6, H6, S6, r6, q6⟩ := hfl
        exact away S6 fun s7 J7 => ⟨_, _, _, J7, r6, q6⟩
    | false =>
      show wpAny _ X.A (handleBy (.ref a) X.env []) _ _ _
      refine wpAny_handleBy_nil ?_
      obtain ⟨y1, y2, y3, oe, vs, T, oT, ts', he, hz, hd, h1, hr⟩ := id f3
      unfold PySem.passOn
      refine wpAny_bind (wpAny_field he hd h1 ?_)
      rw [if_neg (show ¬ ((Value.ref T == Value.none) = true) from by simp)]
      have onward : wpAny (model X.prog X.w) X.A (setFlight (.ref a) X.env.frame) (fun _ s4 => wpAny (model X.prog X.w) X.A (throw (.ref a) : Sem Flow) (SP X pins D) X.xe s4) X.xe { t' with heap := g3 } := by
        rw [hf]
        refine HandSPX.setFlight_upZ f3 fun g4 hh4 u4 => wpAny_throw (tk _ _ ?_)
        exact ⟨a, B, sJ, pins, σ', H', cls, d, rfl, J, nb, (up.trans u3).trans u4, .inr (.inr (by rw [hs]; exact hh4)), na, eos, bare, hno rfl⟩
      first
        | exact wpAny_bind (wpAny_pure (wpAny_bind onward))
        | exact wpAny_bind onward
end
end Bk
namespace Bk
open PySem PySem.Spec PyProof.Rows L2 Evl
section
variable {X : Cx} {pins : List (Addr × Obj)} {σ : L2.St} {H : Hp} {s : Shared}
/-- where the dict of a kept error stands, if there is one -/
def Dct (H : Hp) (d : Option Addr) : Prop := ∀ dd, d = some dd → ∃ fs, H dd = some (.xd fs)
/-- isinstance(x, c) of a kept error -/
def rIsK (K : PySem.W.Frag) : List V → Hp → VK → Prop := fun xs H Q => ∃ (a D : Addr) (d : Option Addr) (c : V) (cv : Value) (b : Bool), xs = [.ref a, c] ∧ ClsV c cv ∧ H a = some (ExK (.ref D) d a) ∧ Dct H d ∧ ExcC K D ∧ PySem.W.kitOne K (.ref D) cv = some b ∧ Q (.bl b) H
theorem call_isK {X : Cx} : CallR X (.builtin "isinstance") (rIsK X.K) := by
  intro pins s σ H xs us Q I r h
  obtain ⟨a, D, d, c, cv, b, rfl, hcv, ha, hd, ex, e, q⟩ := h
  cases r with
  | cons rx rr =>
    cases rr with
    | cons rt rr =>
      cases rr
      cases rx
      have ec := hcv.eq rt
      subst ec
      obtain ⟨oe, vs, hget, hz, hv⟩ := exk_at I.hok ha
      have hcl : (PySem.W.clsIn X.K D).isSome = true := by
        obtain ⟨cd, hc, _⟩ := PySem.W.any_some ex.hd
        rw [hc]
        rfl
      obtain ⟨od, J⟩ : ∃ od, PySem.W.InstAt s.heap a oe D od := by
        obtain ⟨oc, od, oda, osl⟩ := oe
        obtain ⟨h1, h2⟩ := hz
        dsimp only at h1 h2 hv
        subst h1 h2 hv
        cases od with
        | none => exact ⟨none, hget, rfl, rfl, trivial⟩
        | some dd =>
          obtain ⟨fs, hx⟩ := hd dd rfl
          have hx' : ObjOk X.prog X.w H s.heap dd (.xd fs) := I.hok dd _ hx
          obtain ⟨mA, hns, hr⟩ := hx'
          obtain ⟨od, ho, hl⟩ := lookIn_ns hns
          exact ⟨some od, hget, rfl, rfl, ho⟩
      exact PySem.W.kia_one (PySem.W.kitx_exc hcl ex.hg ex.hk ex.hs ex.ha ex.hn ex.ht ex.hm) I.kIn J e (fun z => nomatch z) fun tk => ⟨.bl b, H, I.kept (t' := tk) fun _ _ z => z, rfl, q⟩
/-- .. of anything -/
def rIsiX (K : PySem.W.Frag) : List V → Hp → VK → Prop := fun xs H Q => rIsi K xs H Q ∨ rIsK K xs H Q
theorem call_isX {X : Cx} {K : PySem.W.Frag} (h : X.K = K) : CallR X (.builtin "isinstance") (rIsiX K) := by
  subst h
  exact call_isi.or call_isK
/-- e.f, e a kept error -/
def tXk (K : PySem.W.Frag) (f : Str) (te : TE) : TE := fun σ H Q => te σ H fun x H1 => ∃ (a C dd : Addr) (fs : List (Str × V)) (v : V), x = .ref a ∧ H1 a = some (ExK (.ref C) (some dd) a) ∧ H1 dd = some (.xd fs) ∧ XfC K C ∧ PySem.W.findIn K (.ref C) f = some none ∧ fs.lookup f = some v ∧ Q v H1
theorem pe_xk {X : Cx} {K : PySem.W.Frag} {e : Expr} {te : TE} {pos : Pos} {n : Str} (hK : X.K = K) (he : PE X e te) (hb : attributeBase e n X.env (eval e X.env) = eval e X.env := by rfl) : PE X (.Attribute e n pos) (tXk K n te) := by
  subst hK
  refine ⟨fun pins s σ H Q I h => ?_⟩
  refine attr_of hb (thn (he.run pins s σ H _ I h) fun u s1 hh => ?_)
  obtain ⟨x, H1, I1, rx, a, C, dd, fs, v, rfl, ha, hx, T, hno, l, q⟩ := hh
  obtain rfl : u = Value.ref a := rx
  obtain ⟨oe, vs, hget, hz, hd⟩ := exk_at I1.hok ha
  have hx' : ObjOk X.prog X.w H1 s1.heap dd (.xd fs) := I1.hok dd _ hx
  obtain ⟨mA, hns, hr⟩ := hx'
  obtain ⟨od, ho, hl⟩ := lookIn_ns hns
  obtain ⟨u, hu, ru⟩ := RelO.some_of (v := v) (o := mA n) (by rw [← l]; exact hr n)
  have J : PySem.W.InstAt s1.heap a oe C (some od) := ⟨hget, hz.1, by unfold PySem.W.notCls; rw [hd] <;> rfl, by rw [hz.2]; exact ho⟩
  exact HandSPX.exc_get I1.kIn J T.ga T.gg T.exC (PySem.W.findObj_own T.hdC hno rfl (by rw [hl, hu])) (handed_of ru) ⟨v, H1, I1.tok _, ru, q⟩
end
section
variable {X : Cx} {CX : CXT} {k : Nat} {f : Addr} {fd : FuncData} {ps : List Str} {sp : Sp} {E : L2.St → XK} {x : Str} {p pos : Pos} {e : Expr} {es : List Expr} {t : TA} {kws : List Keyword} {tk : TA} {ks : List Str}
/-- f(e, ..) in a try -/
theorem runGS {pins : List (Addr × Obj)} {σ : L2.St} {H : Hp} {s : Shared} {Q : VK} {us : List Value} {vs : List V} (F : FnG X.prog X.w X.K X.mg X.base CX k f fd ps sp) (hr : Rm k X.A) (hb : Binds X.K fd ps []) (hx : PassesAt CX X σ (E σ))
    (I : Inv X pins σ H s) (r : Vals vs us) (h : sp vs H Q (E σ)) : wpAny (model X.prog X.w) X.A (call (.ref f) us) (EP X pins σ Q) X.xe s := by
  have hl : us.length = ps.length := by rw [← r.length]; exact F.len _ _ _ _ h
  have b := hb s us I.kIn (by rw [List.append_nil]; exact hl)
  rw [List.append_nil] at b
  refine wpAny_call (codeAny_mono (F.run X.A X.stack s H ⟨us, []⟩ us vs Q (E σ) hr I.env0 b r h) fun r s' hq => ?_)
  cases r with
  | error e => exact hx pins H s e s' I hq
  | ok fl =>
    cases fl with
    | ret u => exact I.after hq
    | next => exact hq.elim
    | brk => exact hq.elim
    | cont => exact hq.elim
theorem callGS (F : FnG X.prog X.w X.K X.mg X.base CX k f fd ps sp) (hr : Rm k X.A) (hg : Gl X x) (hm : X.mg x = some (.ref f)) (hk : PySem.W.keepIn X.K (.ref f) = true) (hb : Binds X.K fd ps []) (hx : ∀ σ, PassesAt CX X σ (E σ))
    (ha : PA X (e :: es) t) (hdb : (x == ("__debug__" : Str)) = false := by decide) (he : starEach (e :: es) X.env = (false, eval e X.env) :: starEach es X.env := by rfl) (hpl : (backTo pos (starEach es X.env)).any (·.1) = false := by rfl) :
    PE X (.Call (.Name x p) (e :: es) [] pos) (tCallS sp E t) := by
  refine ⟨fun pins s σ H Q I h => ?_⟩
  refine wpAny_Call_Name_kw (ld_glob I hg hm ?_ hdb)
  refine PySem.W.callWith_K (h₀ := X.base) I.ok.mod.kin hk (thn (ha.run pos pins s σ H _ I h) fun us s1 ⟨vs, H1, I1, r, q⟩ => ⟨I1.kIn, ?_⟩) he hpl
  exact runGS F hr hb (hx σ) I1 r q
end
/-! ### readings -/
theorem dct_none {H : Hp} : Dct H none := fun _ h => nomatch h
theorem dct_some {H : Hp} {dd : Addr} {fs : List (Str × V)} (h : H dd = some (.xd fs)) : Dct H (some dd) := fun b e => by
  cases e
  exact ⟨fs, h⟩
theorem Dct.ex {H H' : Hp} {d : Option Addr} (h : Dct H d) (e : Ex H H') : Dct H' d := fun dd z => by
  obtain ⟨fs, q⟩ := h dd z
  exact ⟨fs, e _ _ q⟩
theorem xfc_of {K : PySem.W.Frag} {C : Addr} (x : ExcC K C) : XfC K C := ⟨x.hg, x.hk, x.hs, x.hd⟩
section
variable {K : PySem.W.Frag} {σ : L2.St} {H : Hp} {ta tc te : TE} {a D : Addr} {d : Option Addr} {c : V} {cv : Value} {b : Bool}
theorem ev_isK (h : Ev ta σ H (.ref a)) (hc : ∀ H1, Ev tc σ H1 c) (cl : ClsV c cv) (ha : H a = some (ExK (.ref D) d a)) (hd : Dct H d) (ex : ExcC K D) (k : PySem.W.kitOne K (.ref D) cv = some b) : Ev (tCB (rIsiX K) (tCons ta (tCons tc tNil))) σ H (.bl b) := fun H1 e Q q =>
  h H1 e _ fun H2 e2 => hc H2 H2 (Ex.refl H2) _ fun H3 e3 => .inr ⟨a, D, d, c, cv, b, rfl, cl, ((e.trans e2).trans e3) _ _ ha, hd.ex ((e.trans e2).trans e3), ex, k, q H3 (e2.trans e3)⟩
theorem ev_isX {x : V} {t : Value} (h : Ev ta σ H x) (hc : ∀ H1, Ev tc σ H1 c) (cl : ClsV c cv) (ty : ∀ H1, Ex H H1 → TyX K H1 x t) (k : PySem.W.kitOne K t cv = some b) : Ev (tCB (rIsiX K) (tCons ta (tCons tc tNil))) σ H (.bl b) := fun H1 e Q q =>
  h H1 e _ fun H2 e2 => hc H2 H2 (Ex.refl H2) _ fun H3 e3 => .inl ⟨x, c, t, cv, b, rfl, cl, ty H3 ((e.trans e2).trans e3), k, q H3 (e2.trans e3)⟩
theorem ev_xk {f : Str} {C dd : Addr} {fs : List (Str × V)} {v : V} (h : Ev te σ H (.ref a)) (ha : H a = some (ExK (.ref C) (some dd) a)) (hd : H dd = some (.xd fs)) (x : ExcC K C) (hno : PySem.W.findIn K (.ref C) f = some none) (l : fs.lookup f = some v) : Ev (tXk K f te) σ H v := fun H1 e Q q =>
  h H1 e _ fun H2 e2 => ⟨a, C, dd, fs, v, rfl, (e.trans e2) _ _ ha, (e.trans e2) _ _ hd, xfc_of x, hno, l, q H2 e2⟩
end
end Bk
namespace Bk
open PySem PySem.Spec PyProof.Rows L2 Evl
theorem bt_ValueError : bootBuiltins "ValueError" = some (.type "ValueError") := by decide +kernel
theorem sup_mk {P : Program} {K : PySem.W.Frag} {h : Heap} {mg : Str → Option Value} {f : Str} {st : Stmt} {C fI : Addr} (X : K.In h) (G : h.Ns mainGlobals mg)
    {nm q : Str} {N : Addr} {bs bm : List Value} {sn : List Str} {sub : List Value} {ab : Bool} {col : Option Bool} {dd : Option Addr} {k0 k1 k2 k3 k5 : Option Value}
    (lk : K.lookup C = some (excClassObj nm q C N bs bm true sn sub ab col dd k0 k1 k2 k3 k5 "ValueError.__new__")) (rv : PySem.HandSPX.refsVE bm = true)
    (sa : PySem.W.findIn K (.ref C) "__setattr__" = some (some (.builtin "object.__setattr__"))) (exC : PySem.W.subIn K (.ref C) (.type "BaseException") = some true) (tyC : PySem.W.typeIn K (.ref C) = some (.type "type")) (kC : PySem.W.keepIn K (.ref C) = true)
    (iC : PySem.W.findIn K (.ref C) "__init__" = some (some (.ref fI))) (tI : PySem.W.typeIn K (.ref fI) = some (.type "function")) (nf : PySem.W.findIn K (.ref C) f = some none)
    (up : PySem.W.ks_superIn K C C "__init__" = some (some (.builtin "ValueError.__init__"))) (sB : PySem.W.subIn K (.ref C) (.type "ValueError") = some true) (sC : PySem.W.mroIn K C (.ref C) = some true)
    (no : PySem.W.nsIn K cStatics "thirdparty.any" = some none) (gS : PySem.W.nsIn K mainGlobals "super" = some none)
    {qual : Str} {oc kV doc pm ct : Value} {od an : Option Addr} {cda cc : Addr} {osl csl ccs : Array (Option Value)} {cl ccl : Value} {cld cdd : Option Addr} {vs : Array Value} {file : Str} {tf : Tok}
    (lI : K.lookup fI = some ⟨oc, od, .func (PySem.W.fnX "__init__" qual (defArgs st) (defBody st) (defScope st) [("__class__", cc)] .none kV doc pm an (.ref cda) ct), osl⟩)
    (cI : PySem.W.codeIn K (.ref cda) qual = true) (lC : K.lookup cc = some ⟨cl, cld, .cell (some (.ref C)), csl⟩) (lD : K.lookup cda = some ⟨ccl, cdd, .fields vs, ccs⟩) (hv : vs[2]? = some (.str file tf)) (hf : ((P.main.file : Str) == file) = true)
    (top : (P.main.scope.names.lookup ("super" : Str)).isSome = false) (arg : ∃ ar, ((defArgs st).posonlyargs ++ (defArgs st).args).head? = some ar ∧ ar.arg = "self")
    (body : ∃ p0 p1 p2 p3 p4 p5 p6 p7 p8 p9 m j, defBody st = [.Expr (.Call (.Attribute (.Call (.Name "super" p0) [] [] p1) "__init__" p2) [.Constant (.str m) j p3] [] p4) p5, .Assign [.Attribute (.Name "self" p6) f p7] (.Name f p8) p9] ∧
      (∀ env, ∃ pl : Sem Bool, eval (.Call (.Attribute (.Call (.Name "super" p0) [] [] p1) "__init__" p2) [.Constant (.str m) j p3] [] p4) env = (do
        let ov ← attributeBase (.Call (.Name "super" p0) [] [] p1) "__init__" env (eval (.Call (.Name "super" p0) [] [] p1) env)
        standAt p2.atName
        let (g, first) ← holding [ov] (getMethod ov "__init__" pl)
        callWith p4 g first (backTo p4 (starEach [.Constant (.str m) j p3] env)) [])) ∧
      ∀ env, swapsWith (.Name f p8) (some (.Attribute (.Name "self" p6) f p7)) p9.line env = pure false)
    (sc : SupS f (defScope st)) :
    SupC P K mg C fI (PySem.W.fnX "__init__" qual (defArgs st) (defBody st) (defScope st) [("__class__", cc)] .none kV doc pm an (.ref cda) ct) f st :=
  { ox := ⟨⟨nm, q, N, bs, bm, sn, sub, ab, col, dd, k0, k1, k2, k3, k5, lk, rv⟩, sa, exC, tyC, kC⟩
    iC := iC
    tI := tI
    nf := nf
    up := up
    sB := sB
    sC := sC
    no := no
    gS := PySem.W.mg_none_of X G gS
    fn := ⟨qual, oc, od, kV, doc, pm, an, cda, ct, cc, osl, cl, cld, csl, ccl, cdd, ccs, vs, file, tf, rfl, lI, cI, lC, lD, hv, hf⟩
    top := top
    arg := arg
    body := body
    sc := sc }
/-! ### values of which something is known, with the heap; repr of any data -/
def EvP (te : TE) (σ : L2.St) (H : Hp) (P : V → Hp → Prop) : Prop := ∀ H1, Ex H H1 → ∀ Q : VK, (∀ v H2, Ex H1 H2 → P v H2 → Q v H2) → te σ H1 Q
def SpP (sp : Sp) (vs : List V) (H : Hp) (P : V → Hp → Prop) : Prop := ∀ H1, Ex H H1 → ∀ Q : VK, (∀ v H2, Ex H1 H2 → P v H2 → Q v H2) → ∀ E : XK, sp vs H1 Q E
def RetP (P : V → Hp → Prop) (H : Hp) (Q : VK) : Prop := ∀ v H2, Ex H H2 → P v H2 → Q v H2
mutual
theorem Dp.ex {K : PySem.W.Frag} {H H' : Hp} (e : Ex H H') : ∀ (d : PyData) (v : V), Dp K H v d → Dp K H' v d
  | .none, _, h => by cases h; exact .non
  | .bool _, _, h => by cases h; exact .bl _
  | .int _, _, h => by cases h; exact .int _
  | .str _, _, h => by cases h; exact .str _
  | .list ds, _, h => by
    cases h with
    | lst h1 h2 => exact .lst (ex_l e h1) (DpAll.ex e ds _ h2)
  | .tuple ds, _, h => by
    cases h with
    | tup h1 h2 => exact .tup (ex_t e h1) (DpAll.ex e ds _ h2)
  | .dict _, _, h => by cases h
theorem DpAll.ex {K : PySem.W.Frag} {H H' : Hp} (e : Ex H H') : ∀ (ds : List PyData) (vs : List V), DpAll K H vs ds → DpAll K H' vs ds
  | [], _, h => by cases h; exact .nil
  | d :: ds, _, h => by
    cases h with
    | cons h1 h2 => exact .cons (Dp.ex e d _ h1) (DpAll.ex e ds _ h2)
end
/-- what repr asks of data -/
def Sho (d : PyData) : Prop := d.showable = true ∧ d.hasDict = false ∧ d.depth ≤ 60 ∧ d.shown.length ≤ sizeLine
def rReprX (K : PySem.W.Frag) : List V → Hp → VK → Prop := fun xs H Q => ∃ (x : V) (d : PyData), xs = [x] ∧ Dp K H x d ∧ Sho d ∧ (∀ y, d ≠ .str y) ∧ Q (.str d.shown) H
theorem call_reprX {X : Cx} {K : PySem.W.Frag} (hK : X.K = K) (hg : X.A.guards = some []) (hu : X.A.units + 64 < cLine) : CallR X (.builtin "repr") (rReprX K) := by
  subst hK
  intro pins s σ H xs us Q I r h
  obtain ⟨x, d, rfl, hd, ⟨hs, hn, hp, hz⟩, no, q⟩ := h
  obtain ⟨u, rfl, ru⟩ := vals1 r
  obtain ⟨as, rd⟩ := Dp.reads I d x u hd ru
  have go : ∀ a, u = Value.ref a → wpAny (model X.prog X.w) X.A (call (.builtin "repr") [u]) (EP X pins σ Q) X.xe s := fun a e => by
    subst e
    refine repr_of_reads' rd hs (fun z => by rw [hn] at z; cases z) hg (by omega) (fun _ _ e => e) (fun h' u tk hk => ?_) hz
    exact ⟨.str d.shown, H, I.kept hk, ⟨u, rfl⟩, q⟩
  cases hd with
  | non =>
    cases (show u = Value.none from ru)
    exact PySem.P.repr_of_none ⟨.str "None", H, I.tok _, ⟨_, rfl⟩, q⟩
  | bl b =>
    cases (show u = Value.bool b from ru)
    cases b
    · exact PySem.P.repr_of_bool ⟨.str "False", H, I.tok _, ⟨_, rfl⟩, q⟩
    · exact PySem.P.repr_of_bool ⟨.str "True", H, I.tok _, ⟨_, rfl⟩, q⟩
  | int i =>
    obtain ⟨t, rfl⟩ := ru
    exact PySem.P.repr_of_int (by simpa [PyData.showable] using hs) ⟨.str _, H, I.tok _, ⟨_, rfl⟩, q⟩
  | str y => exact (no y rfl).elim
  | lst _ _ => exact go _ ru
  | tup _ _ => exact go _ ru
/-- evaluates to data -/
def EvD (K : PySem.W.Frag) (te : TE) (σ : L2.St) (H : Hp) (d : PyData) : Prop := EvP te σ H fun v H1 => Dp K H1 v d
def barD : Option (Nat × Str) → PyData
  | none => .none
  | some (n, s) => .tuple [.int (n : Int), .str s]
section
variable {K : PySem.W.Frag} {σ : L2.St} {H : Hp} {ta tb te : TE} {t : TA} {tt : TT} {sp : Sp} {E : XK} {vs xs : List V} {b : Option (Nat × Str)} {D : Ends} {tz : TS} {i : Nat} {P : V → Hp → Prop} {d : PyData}
theorem ep_call (h : EvA t σ H vs) (hs : SpP sp (vs ++ []) H P) : EvP (tCall sp [] E t) σ H P := fun H1 e Q q =>
  h H1 e _ fun H2 e2 => hs H2 (e.trans e2) Q (fun v H3 e3 h3 => q v H3 (e2.trans e3) h3) E
theorem q_asgP (h : EvP te σ H P) (k : ∀ v H1, Ex H H1 → P v H1 → tz D (σ.set i (some v)) H1) : tSeq (tAsg te (gName i)) tz D σ H :=
  h H (Ex.refl H) _ fun v H1 e1 h1 => k v H1 e1 h1
theorem EvP.mono {P' : V → Hp → Prop} (h : EvP te σ H P) (k : ∀ v H1, P v H1 → P' v H1) : EvP te σ H P' := fun H1 e Q q => h H1 e Q fun v H2 e2 p => q v H2 e2 (k v H2 p)
theorem ed_var {j : Nat} {v : V} (h : σ[j]? = some (some v)) (hd : Dp K H v d) : EvD K (tVar j) σ H d := fun H1 e Q q => ⟨v, h, q v H1 (Ex.refl H1) (Dp.ex e d v hd)⟩
theorem ed_L {ns : List Int} (h : EvL te σ H (vi ns)) : EvD K te σ H (.list (di ns)) := fun H1 e Q q => h H1 e Q fun p H2 _ e2 h2 => q _ H2 e2 (dp_lst (sq_of h2))
theorem ed_B (h : EvB te σ H b) : EvD K te σ H (barD b) := fun H1 e Q q => h H1 e Q fun v H2 e2 h2 => q v H2 e2 (by
  cases b with
  | none =>
    have h2' : v = .non := h2
    rw [h2']
    exact .non
  | some x =>
    obtain ⟨p, e1, g⟩ := h2
    rw [e1]
    exact .tup (st_of g) (.cons (.int _) (.cons (.str _) .nil)))
theorem ep_L (h : EvL te σ H xs) (k : ∀ p H1 H2, Ex H H1 → H1 p = none → Ex H1 H2 → H2 p = some (.lst xs) → P (.ref p) H2) : EvP te σ H P := fun H1 e Q q => h H1 e Q fun p H2 hp e2 h2 => q _ H2 e2 (k p H1 H2 e hp e2 h2)
theorem ep_U (h : EvU te σ H xs) (k : ∀ p H1 H2, Ex H H1 → H1 p = none → Ex H1 H2 → H2 p = some (.tup xs) → P (.ref p) H2) : EvP te σ H P := fun H1 e Q q => h H1 e Q fun p H2 hp e2 h2 => q _ H2 e2 (k p H1 H2 e hp e2 h2)
theorem ed_ifT (h : EvT tt σ H true) (k : ∀ H1, Ex H H1 → EvP ta σ H1 P) : EvP (tIf tt ta tb) σ H P := fun H1 e Q q =>
  h H1 e _ fun H2 e2 => iteT (k H2 (e.trans e2) H2 (Ex.refl H2) Q fun v H3 e3 p => q v H3 (e2.trans e3) p)
theorem ed_ifF (h : EvT tt σ H false) (k : ∀ H1, Ex H H1 → EvP tb σ H1 P) : EvP (tIf tt ta tb) σ H P := fun H1 e Q q =>
  h H1 e _ fun H2 e2 => iteF (k H2 (e.trans e2) H2 (Ex.refl H2) Q fun v H3 e3 p => q v H3 (e2.trans e3) p)
theorem ed_U {ds : List PyData} (h : EvU te σ H vs) (hd : DpAll K H vs ds) : EvD K te σ H (.tuple ds) := fun H1 e Q q => h H1 e Q fun p H2 _ e2 h2 => q _ H2 e2 (.tup (st_of h2) (DpAll.ex (e.trans e2) ds vs hd))
theorem ev_reprX (h : EvD K te σ H d) (hs : Sho d) (no : ∀ y, d ≠ .str y) : Ev (tCB (rReprX K) (tCons te tNil)) σ H (.str d.shown) := fun H1 e Q q =>
  h H1 e _ fun v H2 e2 hd => ⟨v, d, rfl, hd, hs, no, q H2 e2⟩
/-- x, y, z = (value, new list, first bar), by a tuple -/
theorem q_tup3B {j l : Nat} {tc : TE} {x : V} (h1 : Ev ta σ H x) (h2 : EvL tb σ H xs) (h3 : EvB tc σ H b) (k : ∀ p v H1, H p = none → Ex H H1 → H1 p = some (.lst xs) → BarV b v H1 → tz D (((σ.set i (some x)).set j (some (.ref p))).set l (some v)) H1) :
    tSeq (tAsg (tTup (tCons ta (tCons tb (tCons tc tNil)))) (gTup K 3 (gCons (gName i) (gCons (gName j) (gCons (gName l) gNil))))) tz D σ H :=
  h1 H (Ex.refl H) _ fun H1 e1 => h2 H1 e1 _ fun p H2 hp e2 g2 => h3 H2 (e1.trans e2) _ fun v H3 e3 g3 => ⟨sz_of (by show 3 ≤ 100000; decide), fun r hr => ⟨r, _, rfl, st_of upd_same, rfl, _, _, rfl, _, _, rfl, _, _, rfl, rfl,
    k p v _ (fresh_back e1 hp) (((e1.trans e2).trans e3).trans (Ex.new hr)) (Ex.new hr _ _ (e3 _ _ g2)) (g3.ex (Ex.new hr))⟩⟩
end
theorem sho_list {ns : List Int} (hw : wide 1900 ns) (hl : ns.length ≤ 4000) : Sho (.list (di ns)) := by
  refine ⟨by simp [PyData.showable, showable_ints (hw.mono (by decide))], by simp [PyData.hasDict, noDict_ints], by simp [PyData.depth, depthAll_ints], ?_⟩
  rw [PyData.shown]
  have := listText_le (shown_le (by decide) hw)
  rw [shownAll_ints, List.length_map, ← shownAll_ints] at this
  rw [sizeLine_eq]
  omega
theorem sho_none : Sho .none := ⟨rfl, rfl, by decide, by
  rw [PyData.shown]
  exact sz_of (by decide)⟩
theorem tup2_sho {n : Int} {d : PyData} (hn : n.natAbs.log2 < 1900) (h1 : d.showable = true) (h2 : d.hasDict = false) (h3 : d.depth = 0) (h4 : d.shown.length ≤ 40) : Sho (.tuple [.int n, d]) := by
  refine ⟨by simp [PyData.showable, PyData.showableAll, h1]; omega, by simp [PyData.hasDict, PyData.hasDictAll, h2], by simp [PyData.depth, PyData.depthAll, h3], ?_⟩
  rw [PyData.shown]
  have hi : ((toString n : Str)).length ≤ 1901 := by
    rw [PySem.ofString_length]
    exact int_text_length_le (by decide) hn
  have := tupleText_le (ts := PyData.shownAll [.int n, d]) (L := 1901) (by
    intro t ht
    simp only [PyData.shownAll, List.mem_cons, List.not_mem_nil, or_false] at ht
    rcases ht with e | e
    · rw [e, PyData.shown]
      exact hi
    · rw [e]
      omega)
  have e2 : (PyData.shownAll [.int n, d]).length = 2 := rfl
  rw [e2] at this
  rw [sizeLine_eq]
  omega
theorem small_log {n : Nat} (h : n < 2 ^ 100) : ((n : Int)).natAbs.log2 < 1900 := Nat.lt_of_lt_of_le (PySem.Flt.log2_lt_of (k := 100) (by decide) (by rw [Int.natAbs_natCast]; exact h)) (by decide)
theorem sho_bar {b : Option (Nat × Str)} (h : ∀ n s, b = some (n, s) → n < 2 ^ 100 ∧ (s = "rest" ∨ s = "below")) : Sho (barD b) := by
  cases b with
  | none => exact sho_none
  | some x =>
    obtain ⟨n, s⟩ := x
    obtain ⟨h1, h2⟩ := h n s rfl
    refine tup2_sho (small_log h1) rfl rfl rfl ?_
    rcases h2 with e | e <;> subst e <;> (rw [PyData.shown]; decide +kernel)
end Bk
namespace Bk
open PySem PySem.Spec PyProof.Rows L2 Evl
/-! ### for x in reversed(a tuple); any of a tuple of numbers; drawn lists and tuples in pairs -/
theorem pi_revAK {X : Cx} {K : PySem.W.Frag} {tg e : Expr} {te : TE} {p pos : Pos} (h : X.K = K) (hg : Gl X "reversed") (hm : X.mg "reversed" = none) (he : PE X e te) (hs : starEach [e] X.env = (false, eval e X.env) :: starEach [] X.env := by rfl) : PI X tg (.Call (.Name "reversed" p) [e] [] pos) (RT.iRevA K te) := by
  subst h
  exact RT.pi_revA hg hm he hs
section
variable {K : PySem.W.Frag} {σ : L2.St} {H : Hp} {ta tb te tl ti : TE} {t : TT} {D : Ends} {tu tz : TS}
theorem s_forRevT {a : Addr} {xs : List V} {j : Nat} (h : Ev tl σ H (.ref a)) (hx : SqT K H a xs) (Pv : Nat → L2.St → Hp → Prop) (h0 : ∀ H1, Ex H H1 → Pv 0 σ H1) (hl : ∀ i σ' H', i ≤ xs.length → Pv i σ' H' → SqT K H' a xs)
    (hs : ∀ i x σ' H', xs[xs.length - 1 - i]? = some x → i < xs.length → Pv i σ' H' → tu { D with nx := Pv (i + 1), ct := Pv (i + 1), bk := D.nx } (σ'.set j (some x)) H') (hd : ∀ σ' H', Pv xs.length σ' H' → D.nx σ' H') : tFor (RT.iRevA K tl) (gName j) tu D σ H :=
  h H (Ex.refl H) _ fun H1 e => ⟨a, xs, rfl, Or.inr ⟨ex_t e hx, by
    refine ⟨fun i m σ H => m = xs.length - i ∧ i ≤ xs.length ∧ Pv i σ H, ⟨xs.length, rfl, Nat.zero_le _, h0 H1 e⟩, ?_⟩
    rintro i m σ' H' ⟨rfl, hi, p⟩
    have q := hl i σ' H' hi p
    by_cases hlt : i < xs.length
    · refine .inr ⟨⟨hlt, xs, xs[xs.length - 1 - i], q, List.getElem?_eq_getElem (by omega)⟩, Pv (i + 1), fun σ2 H2 p' => ⟨xs.length - (i + 1), by omega, rfl, hlt, p'⟩, ?_⟩
      rintro x H2 ⟨rfl, gx⟩
      exact hs i x σ' H2 (gx xs q) hlt p
    · have ei : i = xs.length := by omega
      subst ei
      exact .inl ⟨Nat.le_refl _, hd σ' H' p⟩⟩⟩
theorem q_forRevT {a : Addr} {xs : List V} {j : Nat} (h : Ev tl σ H (.ref a)) (hx : SqT K H a xs) (Pv : Nat → L2.St → Hp → Prop) (h0 : ∀ H1, Ex H H1 → Pv 0 σ H1) (hl : ∀ i σ' H', i ≤ xs.length → Pv i σ' H' → SqT K H' a xs)
    (hs : ∀ i x σ' H', xs[xs.length - 1 - i]? = some x → i < xs.length → Pv i σ' H' → tu { D with nx := Pv (i + 1), ct := Pv (i + 1), bk := tz D } (σ'.set j (some x)) H') (hd : ∀ σ' H', Pv xs.length σ' H' → tz D σ' H') : tSeq (tFor (RT.iRevA K tl) (gName j) tu) tz D σ H :=
  s_forRevT (D := { D with nx := tz D }) h hx Pv h0 hl hs hd
def rAnyT (K : PySem.W.Frag) : List V → Hp → VK → Prop := fun vs H Q => ∃ (a : Addr) (ns : List Int), vs = [V.ref a] ∧ SqT K H a (vi ns) ∧ Q (.bl (ns.any fun n => n != 0)) H
theorem plain_ints : ∀ ns : List Int, PyData.plainAll (di ns) = true
  | [] => rfl
  | n :: r => by
    show PyData.plainAll (PyData.int n :: di r) = true
    rw [PyData.plainAll, plain_ints r]
    rfl
theorem call_anyT {X : Cx} (h : X.K = K) (hc : X.calm = true) : CallR X (.builtin "any") (rAnyT K) := by
  subst h
  intro pins s σ H vs us Q I r h
  obtain ⟨a, ns, rfl, hs, q⟩ := h
  obtain ⟨its, rv, ht, _⟩ := I.tuple hs
  obtain ⟨as, ra⟩ := Dp.readsAll I (di ns) (vi ns) its (dpAll_ints X.K H ns) rv
  rw [Vals.ref1 r]
  obtain ⟨o, ho, hcl, n, hd⟩ := ht
  refine PySem.W.any_tuple_data (xs := di ns) (as := as) (I.ok.hd hc) ⟨o, ho, hcl, n, hd⟩ (by simpa using ra) (plain_ints ns) ?_ fun h' tk hk => ?_
  · intro x hx
    obtain ⟨m, _, rfl⟩ := List.mem_map.mp hx
    trivial
  · refine ⟨.bl (ns.any fun n => n != 0), H, I.kept hk, ?_, q⟩
    show Value.bool _ = Value.bool _
    rw [List.any_map]
    rfl
theorem ev_anyT {a : Addr} {ns : List Int} (ha : Ev ta σ H (.ref a)) (h : SqT K H a (vi ns)) : Ev (tCB (rAnyT K) (tCons ta tNil)) σ H (.bl (ns.any fun n => n != 0)) := fun H1 e Q q =>
  ha H1 e _ fun H2 e2 => ⟨a, ns, rfl, ex_t (e.trans e2) h, q H2 e2⟩
end
section
variable {K : PySem.W.Frag} {σ : L2.St} {H : Hp} {ta tb te tl ti : TE} {a : Addr} {d d1 d2 n : Nat} {D : Ends} {tz : TS} {x z : V} {sp : Sp} {E : XK}
/-- x, y = drawn tuple, drawn tuple -/
theorem qw_parUU {i j : Nat} {PA PB : List V → Prop} (h1 : EvWU a d1 ta σ H PA) (h2 : EvWU a d2 tb σ H PB) (w : Well H a n) (hl : n + (d1 + d2) ≤ 2 ^ 50)
    (k : ∀ p q xs ys H1, H p = none → H q = none → p ≠ q → But a H H1 → Well H1 a (n + (d1 + d2)) → H1 p = some (.tup xs) → H1 q = some (.tup ys) → PA xs → PB ys → tz D ((σ.set i (some (.ref p))).set j (some (.ref q))) H1) :
    tSeq (tPar i j (tCons ta (tCons tb tNil))) tz D σ H :=
  h1 n H (But.refl a H) w (by omega) _ fun p xs H2 hp b2 w2 g2 pa => h2 (n + d1) H2 b2 w2 (by omega) _ fun q ys H3 hq b3 w3 g3 pb => ⟨_, _, rfl, by
    refine k p q xs ys _ hp (but_free b2 w2 hq) (ne_of_none g2 hq) (b2.trans b3) ?_ (b3 _ _ (w.ne hp) g2) g3 pa pb
    rw [← Nat.add_assoc]
    exact w3⟩
theorem qw_parLL {i j : Nat} {PA PB : List V → Prop} (h1 : EvWL a d1 ta σ H PA) (h2 : EvWL a d2 tb σ H PB) (w : Well H a n) (hl : n + (d1 + d2) ≤ 2 ^ 50)
    (k : ∀ p q xs ys H1, H p = none → H q = none → p ≠ q → But a H H1 → Well H1 a (n + (d1 + d2)) → H1 p = some (.lst xs) → H1 q = some (.lst ys) → PA xs → PB ys → tz D ((σ.set i (some (.ref p))).set j (some (.ref q))) H1) :
    tSeq (tPar i j (tCons ta (tCons tb tNil))) tz D σ H :=
  h1 n H (But.refl a H) w (by omega) _ fun p xs H2 hp b2 w2 g2 pa => h2 (n + d1) H2 b2 w2 (by omega) _ fun q ys H3 hq b3 w3 g3 pb => ⟨_, _, rfl, by
    refine k p q xs ys _ hp (but_free b2 w2 hq) (ne_of_none g2 hq) (b2.trans b3) ?_ (b3 _ _ (w.ne hp) g2) g3 pa pb
    rw [← Nat.add_assoc]
    exact w3⟩
/-- x, y = new tuple, new list -/
theorem q_parUL {i j : Nat} {xs ys : List V} (h1 : EvU ta σ H xs) (h2 : ∀ p H1, H p = none → Ex H H1 → H1 p = some (.tup xs) → EvL tb σ H1 ys) (k : ∀ p q H1, H p = none → H q = none → p ≠ q → Ex H H1 → H1 p = some (.tup xs) → H1 q = some (.lst ys) → tz D ((σ.set i (some (.ref p))).set j (some (.ref q))) H1) :
    tSeq (tPar i j (tCons ta (tCons tb tNil))) tz D σ H :=
  h1 H (Ex.refl H) _ fun p H2 hp e2 g2 => h2 p H2 hp e2 g2 H2 (Ex.refl H2) _ fun q H3 hq e3 g3 => ⟨_, _, rfl, k p q H3 hp (fresh_back e2 hq) (ne_of_none g2 hq) (e2.trans e3) (e3 _ _ g2) g3⟩
/-- x, y = (c, d) by a tuple -/
theorem q_tupVV {i j : Nat} {x y : V} (h1 : Ev ta σ H x) (h2 : Ev tb σ H y) (k : ∀ H1, Ex H H1 → tz D ((σ.set i (some x)).set j (some y)) H1) :
    tSeq (tAsg (tTup (tCons ta (tCons tb tNil))) (gTup K 2 (gCons (gName i) (gCons (gName j) gNil)))) tz D σ H :=
  h1 H (Ex.refl H) _ fun H2 e2 => h2 H2 e2 _ fun H3 e3 => ⟨sz_of (by show 2 ≤ 100000; decide), fun r hr => ⟨r, _, rfl, st_of upd_same, rfl, _, _, rfl, _, _, rfl, rfl, k _ ((e2.trans e3).trans (Ex.new hr))⟩⟩
/-- a new list against one that is there -/
theorem ev_neLV {p : Addr} {ns ms : List Int} (ha : EvL ta σ H (vi ns)) (hb : Ev tb σ H (.ref p)) (h : SqL K H p (vi ms)) : Ev (tOp (rNeD K) ta tb) σ H (.bl (!decide (ns = ms))) := fun H1 e Q k =>
  ha H1 e _ fun p H2 hp e2 h2 => hb H2 (e.trans e2) _ fun H3 e3 => rv_neL (sq_of (e3 _ _ h2)) (ex_l ((e.trans e2).trans e3) h) H3 (Ex.refl H3) Q fun H4 e4 => k H4 ((e2.trans e3).trans e4)
theorem ev_eqLV {p : Addr} {ns ms : List Int} (ha : EvL ta σ H (vi ns)) (hb : Ev tb σ H (.ref p)) (h : SqL K H p (vi ms)) : Ev (tOp (rEqD K) ta tb) σ H (.bl (decide (ns = ms))) := fun H1 e Q k =>
  ha H1 e _ fun p H2 hp e2 h2 => hb H2 (e.trans e2) _ fun H3 e3 => rv_eqL (sq_of (e3 _ _ h2)) (ex_l ((e.trans e2).trans e3) h) H3 (Ex.refl H3) Q fun H4 e4 => k H4 ((e2.trans e3).trans e4)
/-- f(new list, x), a new list -/
theorem el_callL1 {xs zs : List V} (h : EvL ta σ H xs) (h2 : ∀ p H1, Ex H H1 → H1 p = some (.lst xs) → Ev tb σ H1 x) (hs : ∀ p H1, Ex H H1 → H1 p = some (.lst xs) → SpL sp [.ref p, x] H1 zs) : EvL (tCall sp [] E (tCons ta (tCons tb tNil))) σ H zs := fun H1 e Q q =>
  h H1 e _ fun p H2 hp e2 g2 => h2 p H2 (e.trans e2) g2 H2 (Ex.refl H2) _ fun H3 e3 => hs p H3 ((e.trans e2).trans e3) (e3 _ _ g2) H3 (Ex.refl H3) Q (fun r H4 hr e4 h4 => q r H4 (fresh_back (e2.trans e3) hr) ((e2.trans e3).trans e4) h4) E
/-- f(x, new tuple), a new list -/
theorem el_callVU {xs zs : List V} (h : Ev ta σ H x) (h2 : EvU tb σ H xs) (hs : ∀ p H1, Ex H H1 → H1 p = some (.tup xs) → SpL sp [x, .ref p] H1 zs) : EvL (tCall sp [] E (tCons ta (tCons tb tNil))) σ H zs := fun H1 e Q q =>
  h H1 e _ fun H2 e2 => h2 H2 (e.trans e2) _ fun p H3 hp e3 g3 => hs p H3 ((e.trans e2).trans e3) g3 H3 (Ex.refl H3) Q (fun r H4 hr e4 h4 => q r H4 (fresh_back (e2.trans e3) hr) ((e2.trans e3).trans e4) h4) E
/-- [..][k] of a new list -/
theorem ev_ixN {xs : List V} {k : Int} (ha : EvL ta σ H xs) (hb : ∀ H1, Ex H H1 → Ev tb σ H1 (.int k)) (hx : atI xs k = some z) : Ev (tOp (rIxL K) ta tb) σ H z :=
  ev_opL1 ha hb fun p H1 h1 _ => rv_ixL (sq_of h1) hx
/-- xs[-1] = drawn -/
theorem sw_setLast {xs : List V} {l : Addr} {P : V → Prop} (hl : H l = some (.lst xs)) (nl : l ≠ a) (h : EvW a d te σ H P) (ho : ∀ H1, Ev ta σ H1 (.ref l)) (hi : ∀ H1, Ev tb σ H1 (.int (-1))) (hj : 0 < xs.length) (w : Well H a n) (hn : n + d ≤ 2 ^ 50)
    (k : ∀ v H1, But a H H1 → Well H1 a (n + d) → P v → D.nx σ (upd H1 l (.lst (xs.set (xs.length - 1) v)))) : tAsg te (gSub ta tb rSetL) D σ H :=
  h n H (But.refl a H) w hn _ fun v H1 b1 w1 pv => ho H1 H1 (Ex.refl H1) _ fun H2 e2 => hi H2 H2 (Ex.refl H2) _ fun H3 e3 =>
    ⟨l, xs, (-1 : Int), xs.length - 1, rfl, rfl, (e2.trans e3) _ _ (b1 _ _ nl hl), (by
      unfold ixN
      rw [if_neg (by decide), if_pos (by omega)]
      congr 1
      omega), k v H3 (b1.trans (But.ex (e2.trans e3))) (w1.ex (e2.trans e3)) pv⟩
end
section
variable {K : PySem.W.Frag} {σ : L2.St} {H : Hp} {ta tb te tl ti : TE} {a : Addr} {d n : Nat} {D : Ends} {tu tz : TS}
theorem s_forTn {a : Addr} {xs : List V} {j : Nat} (h : Ev tl σ H (.ref a)) (hx : SqT K H a xs) (Pv : Nat → L2.St → Hp → Prop) (h0 : ∀ H1, Ex H H1 → Pv 0 σ H1) (hl : ∀ i σ' H', i ≤ xs.length → Pv i σ' H' → SqT K H' a xs)
    (hs : ∀ i x σ' H', xs[i]? = some x → Pv i σ' H' → tu { D with nx := Pv (i + 1), ct := Pv (i + 1), bk := D.nx } (σ'.set j (some x)) H') (hd : ∀ σ' H', Pv xs.length σ' H' → D.nx σ' H') : tFor (iTup K tl) (gName j) tu D σ H := s_forT h hx Pv h0 hl hs hd
theorem q_forTn {a : Addr} {xs : List V} {j : Nat} (h : Ev tl σ H (.ref a)) (hx : SqT K H a xs) (Pv : Nat → L2.St → Hp → Prop) (h0 : ∀ H1, Ex H H1 → Pv 0 σ H1) (hl : ∀ i σ' H', i ≤ xs.length → Pv i σ' H' → SqT K H' a xs)
    (hs : ∀ i x σ' H', xs[i]? = some x → Pv i σ' H' → tu { D with nx := Pv (i + 1), ct := Pv (i + 1), bk := tz D } (σ'.set j (some x)) H') (hd : ∀ σ' H', Pv xs.length σ' H' → tz D σ' H') : tSeq (tFor (iTup K tl) (gName j) tu) tz D σ H := s_forTn (D := { D with nx := tz D }) h hx Pv h0 hl hs hd
theorem sw_retL {P : List V → Prop} (h : EvWL a d te σ H P) (w : Well H a n) (l : n + d ≤ 2 ^ 50) (k : ∀ p xs H1, H p = none → But a H H1 → Well H1 a (n + d) → H1 p = some (.lst xs) → P xs → D.rt (.ref p) H1) : tRet te D σ H :=
  h n H (But.refl a H) w l _ fun p xs H2 hp b2 w2 h2 px => k p xs H2 hp b2 w2 h2 px
end
theorem cut_drop (xs : List V) (m : Nat) : cutV xs (some (m : Int)) none = xs.drop m := by
  unfold cutV
  rw [HT.sIx_none, HT.sIx_nat]
  by_cases h : m ≤ xs.length
  · rw [Nat.min_eq_left h, List.take_of_length_le (by rw [List.length_drop]; exact Nat.le_refl _)]
  · rw [Nat.min_eq_right (by omega), List.drop_of_length_le (Nat.le_refl _), List.drop_of_length_le (by omega), List.take_nil]
end Bk
namespace Bk
open PySem PySem.Spec PyProof.Rows L2 Evl
/-! ### tuple * int, also once and never -/
theorem tuple_mulW1 (l : Addr) (items : Array Value) (n : Nat) (dd : Option Addr) (sl : Array (Option Value)) (x : Int) (u : Tok) (c0 : (decide (x < -(2 ^ 63)) || decide (x ≥ 2 ^ 63)) = false) (c1 : (items.isEmpty || x == 1) = true) :
    Meets (Builtin.«tuple.__mul__» ⟨[.ref l, .int x u], []⟩) (fun _ R s => s.heap.get? l = some { cls := .type "tuple", dict := dd, data := .seq items n, slots := sl } ∧
      R (.ok (.ret (Value.ref l))) s) :=
  .of_wp fun prog w A R s h => by
    obtain ⟨hp, g, d, tk, os⟩ := s
    obtain ⟨hl, h⟩ := h
    have f1 := AutoSeq1.idx_int
    wp_walk using wpAny_loadPart' hl
    repeat (first
      | (refine wpAny_ite_false (decide_eq_false (by rw [c0]; exact Bool.false_ne_true)) ?_; wp_walk using wpAny_loadPart' hl)
      | (refine wpAny_ite_true (decide_eq_true (by rw [c1])) ?_; wp_walk using wpAny_loadPart' hl))
    exact ⟨_, rfl, h⟩
theorem tuple_mulW0 (l : Addr) (items : Array Value) (n : Nat) (dd : Option Addr) (sl : Array (Option Value)) (x : Int) (u : Tok) (c0 : (decide (x < -(2 ^ 63)) || decide (x ≥ 2 ^ 63)) = false) (c1 : (items.isEmpty || x == 1) = false) (c2 : (decide (x ≤ 0) || items.isEmpty) = true) :
    Meets (Builtin.«tuple.__mul__» ⟨[.ref l, .int x u], []⟩) (fun _ R s => s.heap.get? l = some { cls := .type "tuple", dict := dd, data := .seq items n, slots := sl } ∧
      R (.ok (.ret (Value.ref s.heap.objs.size))) { s with heap := s.heap.push { cls := Value.type "tuple", data := Data.seq #[] }, toks := s.toks }) :=
  .of_wp fun prog w A R s h => by
    obtain ⟨hp, g, d, tk, os⟩ := s
    obtain ⟨hl, h⟩ := h
    have f1 := AutoSeq1.idx_int
    wp_walk using wpAny_loadPart' hl
    repeat (first
      | (refine wpAny_ite_false (decide_eq_false (by rw [c0]; exact Bool.false_ne_true)) ?_; wp_walk using wpAny_loadPart' hl)
      | (refine wpAny_ite_false (decide_eq_false (by rw [c1]; exact Bool.false_ne_true)) ?_; wp_walk using wpAny_loadPart' hl)
      | (refine wpAny_ite_true (decide_eq_true (by rw [c2])) ?_; wp_walk using wpAny_loadPart' hl))
    exact ⟨_, rfl, h⟩
def rRepTA (K : PySem.W.Frag) : R2 := fun x y H Q => ∃ l k xs, x = .ref l ∧ y = .int k ∧ SqT K H l xs ∧ xs ≠ [] ∧ 0 ≤ k ∧ k ≤ 1000 ∧ xs.length ≤ 1000 ∧ (k = 1 → Q (.ref l) H) ∧ (k ≠ 1 → ∀ p, H p = none → Q (.ref p) (upd H p (.tup (List.replicate k.toNat xs).flatten)))
theorem op_repTA {X : Cx} {K : PySem.W.Frag} (hK : X.K = K) : OpR X (binaryOp .Mult) (rRepTA K) := by
  subst hK
  intro pins s σ H x y v u Q I rx ry h
  obtain ⟨l, k, xs, rfl, rfl, hT, hne, h0, h2, hz, q1, q2⟩ := h
  by_cases hk : 2 ≤ k
  · exact op_repT pins s σ H _ _ v u Q I rx ry ⟨l, k, xs, rfl, rfl, hT, hne, hk, h2, hz, q2 (by omega)⟩
  cases rx
  obtain ⟨t, rfl⟩ := ry
  obtain ⟨its, r, ⟨⟨cls, dd, data, sl⟩, ho, hc, n, hd⟩, hs⟩ := I.tuple hT
  simp only at hc hd
  subst hc hd
  have hle : its.length = xs.length := r.length.symm
  have hn : its ≠ [] := fun e => hne (by
    rw [e] at hle
    exact List.eq_nil_of_length_eq_zero hle.symm)
  have hi : its.toArray.isEmpty = false := by
    cases its with
    | nil => exact absurd rfl hn
    | cons a b => rfl
  have c0 : (decide (k < -(2 ^ 63)) || decide (k ≥ 2 ^ 63)) = false := by
    rw [decide_eq_false (by omega), decide_eq_false (by omega)] <;> rfl
  by_cases e1 : k = 1
  · have c1 : (its.toArray.isEmpty || k == 1) = true := by
      rw [hi, Bool.false_or, e1]
      rfl
    exact wpAny_binaryOp_repeat_ref (T := "tuple") (U := "int") (by decide) ⟨_, ho, rfl⟩ (fun s' => typeIs_int s' k t) noFill_tuple_mul F.fills_int_mul F.slot_int_rmul repeat_tuple F.slot_int_index.lookup
      (call_meets F.slot_int_rmul (typeIs_int s k t) F.entry_int_rmul (F.args_int_rmul_2 _ _) (int_rmul_tuple k t l its.toArray n dd sl)
        ⟨ho, rfl, ⟨_, ho, rfl⟩, call_meets F.slot_tuple_mul ⟨_, ho, rfl⟩ F.entry_tuple_mul (F.args_tuple_mul_2 _ _) (tuple_mulW1 l its.toArray n dd sl k t c0 c1) ⟨ho, ⟨.ref l, H, I, rfl, q1 e1⟩⟩⟩)
  · have e0 : k = 0 := by omega
    have c1 : (its.toArray.isEmpty || k == 1) = false := by
      rw [hi, Bool.false_or]
      exact beq_eq_false_iff_ne.mpr (by omega)
    have c2 : (decide (k ≤ 0) || its.toArray.isEmpty) = true := by
      rw [decide_eq_true (by omega)]
      rfl
    refine wpAny_binaryOp_repeat_ref (T := "tuple") (U := "int") (by decide) ⟨_, ho, rfl⟩ (fun s' => typeIs_int s' k t) noFill_tuple_mul F.fills_int_mul F.slot_int_rmul repeat_tuple F.slot_int_index.lookup
      (call_meets F.slot_int_rmul (typeIs_int s k t) F.entry_int_rmul (F.args_int_rmul_2 _ _) (int_rmul_tuple k t l its.toArray n dd sl)
        ⟨ho, rfl, ⟨_, ho, rfl⟩, call_meets F.slot_tuple_mul ⟨_, ho, rfl⟩ F.entry_tuple_mul (F.args_tuple_mul_2 _ _) (tuple_mulW0 l its.toArray n dd sl k t c0 c1 c2) ⟨ho, ?_⟩⟩)
    have q := q2 e1
    rw [show k.toNat = 0 by omega] at q
    refine ⟨.ref s.heap.objs.size, _, I.laid (t' := s.toks) (o := .tup []) (fun b ob q => Heap.get?_push_of_some _ q) (Nat.le_refl _) ?_, rfl, q _ (I.hok.fresh (Nat.le_refl _))⟩
    exact ⟨Nat.zero_le _, [], .nil, IsTup.new _ _⟩
/-! ### more with a well: lists and tuples drawn -/
section
variable {K : PySem.W.Frag} {σ : L2.St} {H : Hp} {ta tb te tl ti : TE} {t : TA} {a : Addr} {d d1 d2 n : Nat} {D : Ends} {tz : TS} {x z : V} {sp : Sp} {E : XK} {PA PB : List V → Prop}
theorem ewl_rep {xs : List V} {P : Int → Prop} (ha : EvL ta σ (hid a H) xs) (hb : EvW a d tb σ H (fun v => ∃ r, v = .int r ∧ P r)) (hP : ∀ r, P r → 0 ≤ r ∧ r ≤ 300) (hz : xs.length ≤ 300) : EvWL a d (tOp rRep ta tb) σ H (fun ys => ∃ r, P r ∧ ys = (List.replicate r.toNat xs).flatten) := fun n H1 b w l Q q =>
  ha H1 (ex_hid b) _ fun p H2 hp e2 h2 => hb n H2 (b.trans (But.ex e2)) (w.ex e2) l _ fun v H3 b3 w3 ⟨r, er, pr⟩ => by
    subst er
    obtain ⟨r0, r1⟩ := hP r pr
    have h3 := b3 _ _ (w.ne hp) h2
    have hm : xs.length * r.toNat ≤ 300 * 300 := Nat.mul_le_mul hz (by omega)
    exact ⟨p, r, xs, rfl, rfl, h3, by omega, by omega, sz_of (by omega), fun l hl => q l _ _ (but_free ((But.ex e2).trans b3) w3 hl) (((But.ex e2).trans b3).trans (But.new hl)) (w3.ex (Ex.new hl)) upd_same ⟨r, pr, rfl⟩⟩
theorem ewl_cat {p : Addr} {xs : List V} (ha : Ev ta σ (hid a H) (.ref p)) (h : H p = some (.lst xs)) (np : p ≠ a) (hb : EvWL a d tb σ H PB) (hz : ∀ ys, PB ys → xs.length + ys.length ≤ 100000) : EvWL a d (tOp rCat ta tb) σ H (fun zs => ∃ ys, PB ys ∧ zs = xs ++ ys) := fun n H1 b w l Q q =>
  ha H1 (ex_hid b) _ fun H2 e2 => hb n H2 (b.trans (But.ex e2)) (w.ex e2) l _ fun r ys H3 hr b3 w3 h3 py => ⟨p, r, xs, ys, rfl, rfl, b3 _ _ np (e2 _ _ (b _ _ np h)), h3, sz_of (hz ys py), fun l hl => q l _ _ (but_free ((But.ex e2).trans b3) w3 hl) (((But.ex e2).trans b3).trans (But.new hl)) (w3.ex (Ex.new hl)) upd_same ⟨ys, py, rfl⟩⟩
theorem ewu_tupOf (h : EvWL a d te σ H PA) : EvWU a d (tCB (rTupOf K) (tCons te tNil)) σ H PA := fun n H1 b w l Q q =>
  h n H1 b w l _ fun p xs H2 hp b2 w2 h2 px => ⟨p, xs, rfl, .inl ⟨sq_of h2, fun l hl => q l xs _ (but_free b2 w2 hl) (b2.trans (But.new hl)) (w2.ex (Ex.new hl)) upd_same px⟩⟩
theorem ewu_tup (h : EvWA a d t σ H PA) (hz : ∀ xs, PA xs → xs.length ≤ 100000) : EvWU a d (tTup t) σ H PA := fun n H1 b w l Q q =>
  h n H1 b w l _ fun xs H2 b2 w2 pl => ⟨sz_of (hz xs pl), fun p hp => q p xs _ (but_free b2 w2 hp) (b2.trans (But.new hp)) (w2.ex (Ex.new hp)) upd_same pl⟩
theorem ewu_rep {xs : List V} {P : Int → Prop} (ha : EvU ta σ (hid a H) xs) (hb : EvW a d tb σ H (fun v => ∃ r, v = .int r ∧ P r)) (hP : ∀ r, P r → 0 ≤ r ∧ r ≤ 300) (h0 : xs ≠ []) (hz : xs.length ≤ 300) : EvWU a d (tOp (rRepTA K) ta tb) σ H (fun ys => ∃ r, P r ∧ ys = (List.replicate r.toNat xs).flatten) := fun n H1 b w l Q q =>
  ha H1 (ex_hid b) _ fun p H2 hp e2 h2 => hb n H2 (b.trans (But.ex e2)) (w.ex e2) l _ fun v H3 b3 w3 ⟨r, er, pr⟩ => by
    subst er
    obtain ⟨r0, r1⟩ := hP r pr
    have h3 := b3 _ _ (w.ne hp) h2
    refine ⟨p, r, xs, rfl, rfl, st_of h3, h0, r0, by omega, by omega, fun e1 => ?_, fun _ l hl => q l _ _ (but_free ((But.ex e2).trans b3) w3 hl) (((But.ex e2).trans b3).trans (But.new hl)) (w3.ex (Ex.new hl)) upd_same ⟨r, pr, rfl⟩⟩
    exact q p xs H3 hp ((But.ex e2).trans b3) w3 h3 ⟨r, pr, by rw [e1]; simp⟩
theorem ewu_cat (ha : EvWU a d1 ta σ H PA) (hb : EvWU a d2 tb σ H PB) (h0 : ∀ xs, PA xs → xs ≠ []) (hz : ∀ xs ys, PA xs → PB ys → xs.length + ys.length ≤ 100000) : EvWU a (d1 + d2) (tOp (rCatT K) ta tb) σ H (fun zs => ∃ xs ys, PA xs ∧ PB ys ∧ zs = xs ++ ys) := fun n H1 b w l Q q =>
  ha n H1 b w (by omega) _ fun p xs H2 hp b2 w2 h2 px => hb (n + d1) H2 (b.trans b2) w2 (by omega) _ fun r ys H3 hr b3 w3 h3 py => by
    rw [Nat.add_assoc] at w3
    have h2' := b3 _ _ (w.ne hp) h2
    refine ⟨p, r, xs, ys, rfl, rfl, st_of h2', st_of h3, h0 xs px, sz_of (hz xs ys px py), fun e => ?_, fun _ l hl => q l _ _ (but_free (b2.trans b3) w3 hl) ((b2.trans b3).trans (But.new hl)) (w3.ex (Ex.new hl)) upd_same ⟨xs, ys, px, py, rfl⟩⟩
    exact q p xs H3 hp (b2.trans b3) w3 h2' ⟨xs, ys, px, py, by rw [e, List.append_nil]⟩
/-- f(well, drawn ..), which draws itself -/
theorem ewu_callA (h : EvWA a d1 t σ H PA) (hs : ∀ vs n H1, PA vs → Well H1 a n → n + d2 ≤ 2 ^ 50 → ∀ Q : VK, (∀ p xs H2, H1 p = none → But a H1 H2 → Well H2 a (n + d2) → H2 p = some (.tup xs) → PB xs → Q (.ref p) H2) → ∀ E : XK, sp vs H1 Q E) : EvWU a (d1 + d2) (tCall sp [] E t) σ H PB := fun n H1 b w l Q q =>
  h n H1 b w (by omega) _ fun vs H2 b2 w2 pv => by
    rw [List.append_nil]
    exact hs vs (n + d1) H2 pv w2 (by omega) Q (fun p xs H3 hp b3 w3 h3 px => q p xs H3 (but_free b2 w2 hp) (b2.trans b3) (by rw [← Nat.add_assoc]; exact w3) h3 px) E
theorem ewl_callA (h : EvWA a d1 t σ H PA) (hs : ∀ vs n H1, PA vs → Well H1 a n → n + d2 ≤ 2 ^ 50 → ∀ Q : VK, (∀ p xs H2, H1 p = none → But a H1 H2 → Well H2 a (n + d2) → H2 p = some (.lst xs) → PB xs → Q (.ref p) H2) → ∀ E : XK, sp vs H1 Q E) : EvWL a (d1 + d2) (tCall sp [] E t) σ H PB := fun n H1 b w l Q q =>
  h n H1 b w (by omega) _ fun vs H2 b2 w2 pv => by
    rw [List.append_nil]
    exact hs vs (n + d1) H2 pv w2 (by omega) Q (fun p xs H3 hp b3 w3 h3 px => q p xs H3 (but_free b2 w2 hp) (b2.trans b3) (by rw [← Nat.add_assoc]; exact w3) h3 px) E
theorem ewu_mono {P1 : List V → Prop} (x : EvWU a d te σ H PA) (h : ∀ v, PA v → P1 v) : EvWU a d te σ H P1 := fun n H1 b w l Q q => x n H1 b w l Q fun p v H2 hp b2 w2 g2 k => q p v H2 hp b2 w2 g2 (h v k)
theorem ewa_mono {P1 : List V → Prop} (x : EvWA a d t σ H PA) (h : ∀ v, PA v → P1 v) : EvWA a d t σ H P1 := fun n H1 b w l Q q => x n H1 b w l Q fun vs H2 b2 w2 k => q vs H2 b2 w2 (h vs k)
theorem qw_setLast {xs : List V} {l : Addr} {P : V → Prop} (hl : H l = some (.lst xs)) (nl : l ≠ a) (h : EvW a d te σ H P) (ho : ∀ H1, Ev ta σ H1 (.ref l)) (hi : ∀ H1, Ev tb σ H1 (.int (-1))) (hj : 0 < xs.length) (w : Well H a n) (hn : n + d ≤ 2 ^ 50)
    (k : ∀ v H1, But a H H1 → Well H1 a (n + d) → P v → tz D σ (upd H1 l (.lst (xs.set (xs.length - 1) v)))) : tSeq (tAsg te (gSub ta tb rSetL)) tz D σ H := sw_setLast (D := { D with nx := tz D }) hl nl h ho hi hj w hn k
/-- xs[drawn] = drawn -/
theorem sw_setLW {xs : List V} {l : Addr} {P : V → Prop} {PI : Int → Prop} (hl : H l = some (.lst xs)) (nl : l ≠ a) (h : EvW a d1 te σ H P) (ho : ∀ H1, Ev ta σ H1 (.ref l)) (hi : EvW a d2 tb σ H (fun v => ∃ r, v = .int r ∧ PI r)) (hj : ∀ r, PI r → 0 ≤ r ∧ r < xs.length) (w : Well H a n) (hn : n + (d1 + d2) ≤ 2 ^ 50)
    (k : ∀ v (j : Nat) H1, But a H H1 → Well H1 a (n + (d1 + d2)) → P v → j < xs.length → D.nx σ (upd H1 l (.lst (xs.set j v)))) : tAsg te (gSub ta tb rSetL) D σ H :=
  h n H (But.refl a H) w (by omega) _ fun v H1 b1 w1 pv => ho H1 H1 (Ex.refl H1) _ fun H2 e2 => hi (n + d1) H2 (b1.trans (But.ex e2)) (w1.ex e2) (by omega) _ fun u H3 b3 w3 ⟨r, er, pr⟩ => by
    subst er
    obtain ⟨r0, r1⟩ := hj r pr
    obtain ⟨j, rfl⟩ : ∃ j : Nat, r = j := ⟨r.toNat, by omega⟩
    exact ⟨l, xs, (j : Int), j, rfl, rfl, b3 _ _ nl (e2 _ _ (b1 _ _ nl hl)), ixN_nat (by omega), k v j H3 ((b1.trans (But.ex e2)).trans b3) (by rw [← Nat.add_assoc]; exact w3) pv (by omega)⟩
/-- a list that is there against a new one -/
theorem ev_eqVL {p : Addr} {ns ms : List Int} (ha : Ev ta σ H (.ref p)) (h : SqL K H p (vi ns)) (hb : EvL tb σ H (vi ms)) : Ev (tOp (rEqD K) ta tb) σ H (.bl (decide (ns = ms))) := fun H1 e Q k =>
  ha H1 e _ fun H2 e2 => hb H2 (e.trans e2) _ fun p H3 hp e3 h3 => rv_eqL (ex_l ((e.trans e2).trans e3) h) (sq_of h3) H3 (Ex.refl H3) Q fun H4 e4 => k H4 ((e2.trans e3).trans e4)
/-- x, y = f(..), a pair -/
theorem q_tupP2 {i j : Nat} {P : V → Hp → Prop} (h : EvP te σ H P) (k : ∀ v H1, Ex H H1 → P v H1 → ∃ t x y, v = .ref t ∧ SqT K H1 t [x, y] ∧ tz D ((σ.set i (some x)).set j (some y)) H1) : tSeq (tAsg te (gTup K 2 (gCons (gName i) (gCons (gName j) gNil)))) tz D σ H :=
  h H (Ex.refl H) _ fun v H1 e1 p => by
    obtain ⟨t, x, y, rfl, ht, q⟩ := k v H1 e1 p
    exact ⟨t, _, rfl, ht, rfl, _, _, rfl, _, _, rfl, rfl, q⟩
end
/-! ### isinstance of a kept error, classes in a tuple -/
def rIsKT (K : PySem.W.Frag) : List V → Hp → VK → Prop := fun xs H Q => ∃ (a D tp : Addr) (d : Option Addr) (cs : List V) (us : List Value) (b : Bool), xs = [.ref a, .ref tp] ∧ H tp = some (.tup cs) ∧ Paired ClsV cs us ∧ H a = some (ExK (.ref D) d a) ∧ Dct H d ∧ ExcC K D ∧ PySem.W.kitAny K (.ref D) us = some b ∧ Q (.bl b) H
theorem call_isKT {X : Cx} {K : PySem.W.Frag} (hK : X.K = K) : CallR X (.builtin "isinstance") (rIsKT K) := by
  subst hK
  intro pins s σ H xs us Q I r h
  obtain ⟨a, D, tp, d, cs, ws, b, rfl, hT, k, ha, hd, ex, e, q⟩ := h
  obtain ⟨u1, u2, rfl, r1, r2⟩ := vals2 r
  cases (show u2 = Value.ref tp from r2)
  cases (show u1 = Value.ref a from r1)
  obtain ⟨oe, vs, hget, hz, hv⟩ := exk_at I.hok ha
  have hcl : (PySem.W.clsIn X.K D).isSome = true := by
    obtain ⟨cd, hc, _⟩ := PySem.W.any_some ex.hd
    rw [hc]
    rfl
  obtain ⟨od, J⟩ : ∃ od, PySem.W.InstAt s.heap a oe D od := by
    obtain ⟨oc, od, oda, osl⟩ := oe
    obtain ⟨h1, h2⟩ := hz
    dsimp only at h1 h2 hv
    subst h1 h2 hv
    cases od with
    | none => exact ⟨none, hget, rfl, rfl, trivial⟩
    | some dd =>
      obtain ⟨fs, hx⟩ := hd dd rfl
      have hx' : ObjOk X.prog X.w H s.heap dd (.xd fs) := I.hok dd _ hx
      obtain ⟨mA, hns, hr⟩ := hx'
      obtain ⟨od, ho, hl⟩ := lookIn_ns hns
      exact ⟨some od, hget, rfl, rfl, ho⟩
  obtain ⟨_, its, rv, o, h1, h2, n, h3⟩ := (show ObjOk X.prog X.w H s.heap tp (.tup cs) from I.hok tp _ hT)
  have e3 := ClsV.all k rv
  subst e3
  obtain ⟨oc, odd, dt, sl⟩ := o
  simp only at h2 h3
  subst h2 h3
  exact PySem.W.kia_tup (PySem.W.kitx_exc hcl ex.hg ex.hk ex.hs ex.ha ex.hn ex.ht ex.hm) I.kIn J h1 e (fun z => nomatch z) fun tk => ⟨.bl b, H, I.kept (t' := tk) fun _ _ z => z, rfl, q⟩
section
variable {K : PySem.W.Frag} {σ : L2.St} {H : Hp} {ta tc : TE} {a D : Addr} {d : Option Addr} {cs : List V} {us : List Value} {b : Bool}
theorem ev_isKT (h : Ev ta σ H (.ref a)) (hc : EvU tc σ H cs) (cl : Paired ClsV cs us) (ha : H a = some (ExK (.ref D) d a)) (hd : Dct H d) (ex : ExcC K D) (k : PySem.W.kitAny K (.ref D) us = some b) : Ev (tCB (rIsKT K) (tCons ta (tCons tc tNil))) σ H (.bl b) := fun H1 e Q q =>
  h H1 e _ fun H2 e2 => hc H2 (e.trans e2) _ fun p H3 hp e3 h3 => ⟨a, D, p, d, cs, us, b, rfl, h3, cl, ((e.trans e2).trans e3) _ _ ha, hd.ex ((e.trans e2).trans e3), ex, k, q H3 (e2.trans e3)⟩
end
end Bk
namespace Bk
open PySem PySem.Spec PyProof.Rows L2 Evl
theorem strOk_of (s : String) : PyData.strOk (Str.ofString s) = true := by
  rw [Str.ofString_eq_toList]
  unfold PyData.strOk
  refine Array.all_eq_true.mpr fun i hi => ?_
  simp
  have := (s.toList[i]'(by simpa using hi)).valid
  unfold UInt32.isValidChar Nat.isValidChar at this
  show (s.toList[i]'(by simpa using hi)).val.toNat < 1114112
  omega
theorem strOk_app {a b : Str} (h : PyData.strOk a = true) (h' : PyData.strOk b = true) : PyData.strOk (a ++ b) = true := by
  unfold PyData.strOk at *
  show ((a.cps ++ b.cps).all _) = true
  simp at *
  exact ⟨h, h'⟩
theorem strOk_from : ∀ (ts : List Str) (k : Nat) (acc : Str), PyData.strOk acc = true → (∀ t ∈ ts, PyData.strOk t = true) → PyData.strOk (textFrom k acc ts) = true
  | [], k, acc, h, _ => h
  | t :: r, k, acc, h, ht => by
    show PyData.strOk (textFrom (k + 1) (acc ++ (if k > 0 then ", " else "" : String) ++ t) r) = true
    exact strOk_from r (k + 1) _ (strOk_app (strOk_app h (strOk_of _)) (ht t List.mem_cons_self)) fun u hu => ht u (List.mem_cons_of_mem _ hu)
theorem strOk_list (ns : List Int) : PyData.strOk (PyData.list (di ns)).shown = true := by
  rw [PyData.shown]
  unfold listText
  refine strOk_app (strOk_from _ _ _ (strOk_of _) fun t ht => ?_) (strOk_of _)
  rw [shownAll_ints] at ht
  obtain ⟨i, _, rfl⟩ := List.mem_map.mp ht
  exact strOk_of _
/-! ### a list of pairs of numbers; lists of new lists -/
def Prs (H : Hp) (qs : List Addr) (ps : List (Int × Int)) : Prop := qs.length = ps.length ∧ ∀ (i : Nat) (q : Addr) (x : Int × Int), qs[i]? = some q → ps[i]? = some x → H q = some (.tup [.int x.1, .int x.2])
theorem Prs.ex {H H' : Hp} {qs : List Addr} {ps : List (Int × Int)} (h : Prs H qs ps) (e : Ex H H') : Prs H' qs ps := ⟨h.1, fun i q x a b => e _ _ (h.2 i q x a b)⟩
section
variable {K : PySem.W.Frag} {σ : L2.St} {H : Hp} {ta tb te tl : TE} {t : TA} {D : Ends} {tz : TS}
theorem q_asgPr {ta : TA} {i j n : Nat} {vs : List Nat} (f g : Nat → Int) (h : EvA ta σ H [.int (n : Int)]) (hn : n ≤ 40000) (hw : ∀ x, wipe ((wipe σ vs).set j (some x)) vs = wipe σ vs)
    (he : ∀ (m : Nat) H1, Ex H H1 → m < n → EvU te ((wipe σ vs).set j (some (.int (m : Int)))) H1 [.int (f m), .int (g m)])
    (k : ∀ p qs H1, H p = none → Ex H H1 → H1 p = some (.lst (qs.map .ref)) → Prs H1 qs ((List.range n).map fun m => (f m, g m)) → tz D (σ.set i (some (.ref p))) H1) : tSeq (tAsg (tLc (iRng1 ta) (gName j) tYes te vs) (gName i)) tz D σ H :=
  h H (Ex.refl H) _ fun H1 e1 => ⟨(n : Int), rfl, by omega, by omega, fun Dl hD => by
    refine lc_range (lo := 0) (n := (n : Int).toNat) (fun m H' => Ex H1 H' ∧ ∃ qs : List Addr, H' Dl = some (.lst (qs.map .ref)) ∧ Prs H' qs ((List.range m).map fun m => (f m, g m)) ∧ ∀ q ∈ qs, q ≠ Dl) ⟨Ex.new hD, [], upd_same, ⟨rfl, fun _ _ _ h => nomatch h⟩, fun _ h => nomatch h⟩ (fun m H' hm p => ?_) (fun H' p => ?_)
    · have e0 : (0 : Int) + (m : Int) = (m : Int) := Int.zero_add _
      show wipe ((wipe σ vs).set j (some (.int ((0 : Int) + (m : Int))))) vs = wipe σ vs ∧ tYes ((wipe σ vs).set j (some (.int ((0 : Int) + (m : Int))))) H' fun b H3 => if b = true then te ((wipe σ vs).set j (some (.int ((0 : Int) + (m : Int))))) H3 fun y H4 => ∃ acc, H4 Dl = some (.lst acc) ∧ acc.length < sizeLine ∧ _ else _
      rw [e0]
      obtain ⟨p1, qs, p2, p3, p4⟩ := p
      have hm' : m < n := by omega
      refine ⟨hw _, et_yes H' (Ex.refl H') _ fun H3 e3 => ?_⟩
      refine iteT (he m H3 ((e1.trans p1).trans e3) hm' H3 (Ex.refl H3) _ fun q H4 hq e4 g4 => ?_)
      have lq : qs.length = m := by rw [p3.1, List.length_map, List.length_range]
      have nq : q ≠ Dl := fun z => by
        rw [z, e3 _ _ p2] at hq
        cases hq
      refine ⟨qs.map .ref, e4 _ _ (e3 _ _ p2), sz_lt (by rw [List.length_map]; omega), ((p1.trans e3).trans e4).mut hD, qs ++ [q], by rw [upd_same, List.map_append]; rfl, ⟨by rw [List.length_append, List.length_map, List.length_range, lq]; rfl, fun i q' x a b => ?_⟩, fun q' hq' => ?_⟩
      · rw [List.range_succ, List.map_append] at b
        by_cases c : i < qs.length
        · rw [List.getElem?_append_left c] at a
          rw [List.getElem?_append_left (by rw [List.length_map, List.length_range]; omega)] at b
          rw [upd_ne (p4 _ (List.mem_of_getElem? a))]
          exact e4 _ _ (e3 _ _ (p3.2 i q' x a b))
        · rw [List.getElem?_append_right (by omega)] at a
          rw [List.getElem?_append_right (by rw [List.length_map, List.length_range]; omega), List.length_map, List.length_range] at b
          rw [lq] at a
          match hi : i - m, a, b with
          | 0, a, b =>
            cases a
            cases b
            rw [upd_ne nq]
            exact g4
          | z + 1, a, b => cases a
      · rcases List.mem_append.mp hq' with h | h
        · exact p4 q' h
        · rw [List.mem_singleton.mp h]
          exact nq
    · obtain ⟨p1, qs, p2, p3, p4⟩ := p
      rw [Int.toNat_natCast] at p3
      exact k Dl qs H' (fresh_back e1 hD) (e1.trans p1) p2 p3⟩
theorem el_lcPr {a : Addr} {qs : List Addr} {ps : List (Int × Int)} {i j : Nat} {vs : List Nat} (v : Nat → V) (h : Ev tl σ H (.ref a)) (hx : H a = some (.lst (qs.map .ref))) (hp : Prs H qs ps) (hz : ps.length ≤ 40000)
    (hw : ∀ x y, wipe (((wipe σ vs).set i (some x)).set j (some y)) vs = wipe σ vs) (he : ∀ (n : Nat) (x : Int × Int) H1, Ex H H1 → ps[n]? = some x → Ev te (((wipe σ vs).set i (some (.int x.1))).set j (some (.int x.2))) H1 (v n)) :
    EvL (tLc (iList K tl) (g2 K i j) tYes te vs) σ H (given ps.length (fun _ => true) v) := fun H0 e Q q => h H0 e _ fun H1 e1 => ⟨a, rfl, ⟨_, sq_of ((e.trans e1) _ _ hx)⟩, fun Dl hD =>
  lc_list (xs := qs.map .ref) (Cw H1 (fun _ => true) v Dl) ⟨hD, Ex.new hD, upd_same⟩ (fun i H' _ p => sq_of (p.2.1 _ _ ((e.trans e1) _ _ hx))) (fun n x H' hi p => by
    rw [List.getElem?_map] at hi
    cases g : qs[n]? with
    | none => rw [g] at hi; cases hi
    | some b =>
      rw [g] at hi
      cases hi
      have hl := (List.getElem?_eq_some_iff.mp g).1
      have hlr : n < ps.length := hp.1 ▸ hl
      have hR : ps[n]? = some ps[n] := List.getElem?_eq_getElem hlr
      have hb := p.2.1 _ _ ((e.trans e1) _ _ (hp.2 n b _ g hR))
      exact g2_go hb ⟨hw _ _, cw_turn p (by omega) (fun H3 _ Q q => q H3 (Ex.refl H3)) fun _ => he n _ H1 (e.trans e1) hR⟩)
    (fun H' p => q Dl H' (fresh_back e1 p.1) (e1.trans p.2.1) (by
      have := p.2.2
      rw [List.length_map, hp.1] at this
      exact this))⟩
/-- two new lists, one behind the other -/
def EvLL (t : TA) (σ : L2.St) (H : Hp) (xs ys : List V) : Prop := ∀ H1, Ex H H1 → ∀ Q : List V → Hp → Prop, (∀ p q H2, H1 p = none → H1 q = none → p ≠ q → Ex H1 H2 → H2 p = some (.lst xs) → H2 q = some (.lst ys) → Q [.ref p, .ref q] H2) → t σ H1 Q
theorem ea_LL {xs ys : List V} (h1 : EvL ta σ H xs) (h2 : EvL tb σ H ys) : EvLL (tCons ta (tCons tb tNil)) σ H xs ys := fun H1 e Q q =>
  h1 H1 e _ fun p H2 hp e2 g2 => h2 H2 (e.trans e2) _ fun r H3 hr e3 g3 => q p r H3 hp (fresh_back e2 hr) (ne_of_none g2 hr) (e2.trans e3) (e3 _ _ g2) g3
theorem q_asgLst2 {i : Nat} {xs ys : List V} (h : EvLL t σ H xs ys) (k : ∀ p q l H1, H p = none → H q = none → H l = none → p ≠ q → l ≠ p → l ≠ q → Ex H H1 → H1 p = some (.lst xs) → H1 q = some (.lst ys) → H1 l = some (.lst [.ref p, .ref q]) → tz D (σ.set i (some (.ref l))) H1) : tSeq (tAsg (tLst t) (gName i)) tz D σ H :=
  h H (Ex.refl H) _ fun p q H2 hp hq ne e2 g2 g3 => ⟨sz_of (by show 2 ≤ 100000; decide), fun l hl => k p q l _ hp hq (fresh_back e2 hl) ne (ne_of_none g2 hl).symm (ne_of_none g3 hl).symm (e2.trans (Ex.new hl)) (Ex.new hl _ _ g2) (Ex.new hl _ _ g3) upd_same⟩
theorem q_catLst2 {i : Nat} {l0 : Addr} {zs xs ys : List V} (ha : Ev ta σ H (.ref l0)) (h0 : H l0 = some (.lst zs)) (h : EvLL t σ H xs ys) (hz : zs.length ≤ 1000) (k : ∀ p q l H1, H p = none → H q = none → H l = none → p ≠ q → l ≠ p → l ≠ q → Ex H H1 → H1 p = some (.lst xs) → H1 q = some (.lst ys) → H1 l = some (.lst (zs ++ [.ref p, .ref q])) → tz D (σ.set i (some (.ref l))) H1) : tSeq (tAsg (tOp rCat ta (tLst t)) (gName i)) tz D σ H :=
  ha H (Ex.refl H) _ fun H1 e1 => h H1 e1 _ fun p q H2 hp hq ne e2 g2 g3 => ⟨sz_of (by show 2 ≤ 100000; decide), fun m hm => ⟨l0, m, zs, _, rfl, rfl, Ex.new hm _ _ (e2 _ _ (e1 _ _ h0)), upd_same, sz_of (by show zs.length + 2 ≤ 100000; omega), fun l hl => by
    have e3 := Ex.new (o := .lst [.ref p, .ref q]) hm
    have e4 := Ex.new (o := .lst (zs ++ [.ref p, .ref q])) hl
    have ee := (e2.trans e3).trans e4
    exact k p q l _ (fresh_back e1 hp) (fresh_back e1 hq) (fresh_back ((e1.trans e2).trans e3) hl) ne (ne_of_none (e3 _ _ g2) hl).symm (ne_of_none (e3 _ _ g3) hl).symm (e1.trans ee) ((e3.trans e4) _ _ g2) ((e3.trans e4) _ _ g3) upd_same⟩⟩
/-- two texts in a list, compared with the same -/
theorem ev_neSS {p : Addr} {x y : Str} (hx : PyData.strOk x = true) (hy : PyData.strOk y = true) (ha : EvL ta σ H [.str x, .str y]) (hb : Ev tb σ H (.ref p)) (h : SqL K H p [.str x, .str y]) : Ev (tOp (rNeD K) ta tb) σ H (.bl false) := fun H1 e Q k =>
  ha H1 e _ fun r H2 hr e2 h2 => hb H2 (e.trans e2) _ fun H3 e3 => ⟨.list [.str x, .str y], .list [.str x, .str y], .lst (sq_of (e3 _ _ h2)) (.cons (.str _) (.cons (.str _) .nil)), .lst (ex_l ((e.trans e2).trans e3) h) (.cons (.str _) (.cons (.str _) .nil)), by simp [SeqAt.shaped, PyData.canLay0, PyData.canLayAll0, PyData.depth, PyData.depthAll, hx, hy], by simp [SeqAt.shaped, PyData.canLay0, PyData.canLayAll0, PyData.depth, PyData.depthAll, hx, hy], by
    have e : PyData.eqv (.list [.str x, .str y]) (.list [.str x, .str y]) = true := by simp [PyData.eqv, PyData.eqvAll]
    rw [e]
    exact k H3 (e2.trans e3)⟩
theorem s_forLn' {a : Addr} {xs : List V} {tu : TS} {j : Nat} (h : Ev tl σ H (.ref a)) (hx : SqL K H a xs) (Pv : Nat → L2.St → Hp → Prop) (h0 : ∀ H1, Ex H H1 → Pv 0 σ H1) (hl : ∀ i σ' H', i ≤ xs.length → Pv i σ' H' → SqL K H' a xs)
    (hs : ∀ i x σ' H', xs[i]? = some x → Pv i σ' H' → tu { D with nx := Pv (i + 1), ct := Pv (i + 1), bk := tz D } (σ'.set j (some x)) H') (hd : ∀ σ' H', Pv xs.length σ' H' → tz D σ' H') : tSeq (tFor (iList K tl) (gName j) tu) tz D σ H :=
  s_forL (D := { D with nx := tz D }) h hx Pv h0 hl hs hd
end
end Bk
namespace Bk
open PySem PySem.Spec PyProof.Rows L2 Evl
section
variable {K : PySem.W.Frag} {σ : L2.St} {H : Hp} {ta tb tc te tl : TE} {a : Addr} {d d1 d2 d3 n : Nat} {tz : TS} {D : Ends}
theorem ewl_pure {xs : List V} {P : List V → Prop} (h : EvL te σ (hid a H) xs) (p : P xs) : EvWL a 0 te σ H P := fun n H1 b w l Q q =>
  h H1 (ex_hid b) Q fun r H2 hr e2 h2 => q r xs H2 hr (But.ex e2) (w.ex e2) h2 p
theorem ewl_catW {PA PB : List V → Prop} (ha : EvWL a d1 ta σ H PA) (hb : EvWL a d2 tb σ H PB) (hz : ∀ xs ys, PA xs → PB ys → xs.length + ys.length ≤ 100000) : EvWL a (d1 + d2) (tOp rCat ta tb) σ H (fun zs => ∃ xs ys, PA xs ∧ PB ys ∧ zs = xs ++ ys) := fun n H1 b w l Q q =>
  ha n H1 b w (by omega) _ fun p xs H2 hp b2 w2 h2 px => hb (n + d1) H2 (b.trans b2) w2 (by omega) _ fun r ys H3 hr b3 w3 h3 py => ⟨p, r, xs, ys, rfl, rfl, b3 _ _ (w.ne hp) h2, h3, sz_of (hz xs ys px py), fun l hl => q l _ _ (but_free (b2.trans b3) w3 hl) ((b2.trans b3).trans (But.new hl)) (by
    rw [← Nat.add_assoc]
    exact w3.ex (Ex.new hl)) upd_same ⟨xs, ys, px, py, rfl⟩⟩
theorem qw_par3V {i j l : Nat} {PA PB PC : V → Prop} (h1 : EvW a d1 ta σ H PA) (h2 : EvW a d2 tb σ H PB) (h3 : EvW a d3 tc σ H PC) (w : Well H a n) (hl : n + (d1 + d2 + d3) ≤ 2 ^ 50)
    (k : ∀ x y z H1, But a H H1 → Well H1 a (n + (d1 + d2 + d3)) → PA x → PB y → PC z →
      tz D (((σ.set i (some x)).set j (some y)).set l (some z)) H1) : tSeq (tPar3 i j l (tCons ta (tCons tb (tCons tc tNil)))) tz D σ H :=
  h1 n H (But.refl a H) w (by omega) _ fun x H2 b2 w2 pa => h2 (n + d1) H2 b2 w2 (by omega) _ fun y H3 b3 w3 pb => h3 (n + d1 + d2) H3 (b2.trans b3) w3 (by omega) _ fun z H4 b4 w4 pc => by
    refine ⟨_, _, _, rfl, k x y z H4 ((b2.trans b3).trans b4) ?_ pa pb pc⟩
    rw [show n + (d1 + d2 + d3) = n + d1 + d2 + d3 by omega]
    exact w4
theorem op_isB {X : Cx} : OpR X (compareOp .Is) (fun x y H Q => ∃ a b : Bool, x = V.bl a ∧ y = V.bl b ∧ Q (V.bl (a == b)) H) := by
  intro pins s σ H x y v u Q I rx ry h
  obtain ⟨a, b, rfl, rfl, q⟩ := h
  cases rx
  cases ry
  exact wpAny_is_plain (by rfl) (fin_bl I q (by cases a <;> cases b <;> rfl))
theorem op_notB {X : Cx} : OpR X (compareOp .IsNot) (fun x y H Q => ∃ a b : Bool, x = V.bl a ∧ y = V.bl b ∧ Q (V.bl (!(a == b))) H) := by
  intro pins s σ H x y v u Q I rx ry h
  obtain ⟨a, b, rfl, rfl, q⟩ := h
  cases rx
  cases ry
  exact wpAny_isNot_plain (by rfl) (fin_bl I q (by cases a <;> cases b <;> rfl))
theorem rv_isB {x y : Bool} : RV (fun x y H Q => ∃ a b : Bool, x = V.bl a ∧ y = V.bl b ∧ Q (V.bl (a == b)) H) (.bl x) (.bl y) H (.bl (x == y)) := fun H1 e Q q => ⟨x, y, rfl, rfl, q H1 (Ex.refl H1)⟩
theorem rv_notB {x y : Bool} : RV (fun x y H Q => ∃ a b : Bool, x = V.bl a ∧ y = V.bl b ∧ Q (V.bl (!(a == b))) H) (.bl x) (.bl y) H (.bl (!(x == y))) := fun H1 e Q q => ⟨x, y, rfl, rfl, q H1 (Ex.refl H1)⟩
theorem ewu_pure {xs : List V} {P : List V → Prop} (h : EvU te σ (hid a H) xs) (p : P xs) : EvWU a 0 te σ H P := fun n H1 b w l Q q =>
  h H1 (ex_hid b) Q fun r H2 hr e2 h2 => q r xs H2 hr (But.ex e2) (w.ex e2) h2 p
theorem qw_par3UVV {i j l : Nat} {PA : List V → Prop} {PB PC : V → Prop} (h1 : EvWU a d1 ta σ H PA) (h2 : EvW a d2 tb σ H PB) (h3 : EvW a d3 tc σ H PC) (w : Well H a n) (hl : n + (d1 + d2 + d3) ≤ 2 ^ 50)
    (k : ∀ p xs y z H1, H p = none → But a H H1 → Well H1 a (n + (d1 + d2 + d3)) → H1 p = some (.tup xs) → PA xs → PB y → PC z →
      tz D (((σ.set i (some (.ref p))).set j (some y)).set l (some z)) H1) : tSeq (tPar3 i j l (tCons ta (tCons tb (tCons tc tNil)))) tz D σ H :=
  h1 n H (But.refl a H) w (by omega) _ fun p xs H2 hp b2 w2 g2 pa => h2 (n + d1) H2 b2 w2 (by omega) _ fun y H3 b3 w3 pb => h3 (n + d1 + d2) H3 (b2.trans b3) w3 (by omega) _ fun z H4 b4 w4 pc => by
    refine ⟨_, _, _, rfl, k p xs y z H4 hp ((b2.trans b3).trans b4) ?_ (b4 _ _ (w.ne hp) (b3 _ _ (w.ne hp) g2)) pa pb pc⟩
    rw [show n + (d1 + d2 + d3) = n + d1 + d2 + d3 by omega]
    exact w4
/-- f(new list, new tuple), a new list -/
theorem el_callLU {sp : Sp} {E : XK} {xs ys zs : List V} (h : EvL ta σ H xs) (h2 : EvU tb σ H ys) (hs : ∀ p q H1, Ex H H1 → H1 p = some (.lst xs) → H1 q = some (.tup ys) → SpL sp [.ref p, .ref q] H1 zs) : EvL (tCall sp [] E (tCons ta (tCons tb tNil))) σ H zs := fun H1 e Q q =>
  h H1 e _ fun p H2 hp e2 g2 => h2 H2 (e.trans e2) _ fun p' H3 hp' e3 g3 => hs p p' H3 ((e.trans e2).trans e3) (e3 _ _ g2) g3 H3 (Ex.refl H3) Q (fun r H4 hr e4 h4 => q r H4 (fresh_back (e2.trans e3) hr) ((e2.trans e3).trans e4) h4) E
/-- f(x, drawn tuple) -/
theorem ew_callVU {sp : Sp} {E : XK} {x v : V} {PU : List V → Prop} (h1 : Ev ta σ (hid a H) x) (h : EvWU a d te σ H PU) (hs : ∀ p xs H1, But a H H1 → H1 p = some (.tup xs) → PU xs → SpV sp [x, .ref p] H1 v) : EvW a d (tCall sp [] E (tCons ta (tCons te tNil))) σ H (fun z => z = v) := fun n H1 bt w l Q q =>
  h1 H1 (ex_hid bt) _ fun H2 e2 => h n H2 (bt.trans (But.ex e2)) (w.ex e2) l _ fun p xs H3 hp b3 w3 g3 px => hs p xs H3 ((bt.trans (But.ex e2)).trans b3) g3 px H3 (Ex.refl H3) Q (fun H4 e4 => q v H4 (((But.ex e2).trans b3).trans (But.ex e4)) (w3.ex e4) rfl) E
theorem ew_andT {P : V → Prop} (h1 : Ev ta σ (hid a H) (.bl true)) (h2 : EvW a d tb σ H P) : EvW a d (tAndV ta tb) σ H P := fun n H1 bt w l Q q =>
  h1 H1 (ex_hid bt) _ fun H2 e2 => ⟨true, rfl, iteT (h2 n H2 (bt.trans (But.ex e2)) (w.ex e2) l Q fun v H3 b3 w3 p => q v H3 ((But.ex e2).trans b3) w3 p)⟩
/-- [(f(k), g(k)) for k in range(n) if test][0], where one k alone passes -/
theorem ep_lcP0 {ta : TA} {tt : TT} {t0 : TE} {j n M : Nat} {vs : List Nat} {x y : V} (b : Nat → Bool) (h : EvA ta σ H [.int (n : Int)]) (hn : n ≤ 40000) (hM : M < n) (hb : ∀ m, m < n → (b m = true ↔ m = M)) (hw : ∀ x, wipe ((wipe σ vs).set j (some x)) vs = wipe σ vs)
    (ht : ∀ (m : Nat) H1, Ex H H1 → m < n → EvT tt ((wipe σ vs).set j (some (.int (m : Int)))) H1 (b m)) (he : ∀ H1, Ex H H1 → EvU te ((wipe σ vs).set j (some (.int (M : Int)))) H1 [x, y]) (hz : ∀ H1, Ev t0 σ H1 (.int 0)) :
    EvP (tOp (rIxL K) (tLc (iRng1 ta) (gName j) tt te vs) t0) σ H (fun v H1 => ∃ t, v = .ref t ∧ SqT K H1 t [x, y]) := fun H0 e Q q =>
  h H0 e _ fun H1 e1 => ⟨(n : Int), rfl, by omega, by omega, fun Dl hD => by
    refine lc_range (lo := 0) (n := (n : Int).toNat) (fun m H' => Ex H1 H' ∧ ((m ≤ M ∧ H' Dl = some (.lst [])) ∨ (M < m ∧ ∃ q, q ≠ Dl ∧ H' Dl = some (.lst [.ref q]) ∧ H' q = some (.tup [x, y])))) ⟨Ex.new hD, .inl ⟨Nat.zero_le _, upd_same⟩⟩ (fun m H' hm p => ?_) (fun H' p => ?_)
    · have e0 : (0 : Int) + (m : Int) = (m : Int) := Int.zero_add _
      show wipe ((wipe σ vs).set j (some (.int ((0 : Int) + (m : Int))))) vs = wipe σ vs ∧ tt ((wipe σ vs).set j (some (.int ((0 : Int) + (m : Int))))) H' fun b H3 => if b = true then te ((wipe σ vs).set j (some (.int ((0 : Int) + (m : Int))))) H3 fun y H4 => ∃ acc, H4 Dl = some (.lst acc) ∧ acc.length < sizeLine ∧ _ else _
      rw [e0]
      obtain ⟨p1, p2⟩ := p
      have hm' : m < n := by omega
      refine ⟨hw _, ht m H' ((e.trans e1).trans p1) hm' H' (Ex.refl H') _ fun H3 e3 => ?_⟩
      by_cases c : m = M
      · subst c
        rw [if_pos ((hb m hm').mpr rfl)]
        rcases p2 with ⟨_, g⟩ | ⟨z, _⟩
        · refine he H3 (((e.trans e1).trans p1).trans e3) H3 (Ex.refl H3) _ fun q' H4 hq e4 g4 => ?_
          have nq : q' ≠ Dl := fun z => by
            rw [z, e3 _ _ g] at hq
            cases hq
          exact ⟨[], e4 _ _ (e3 _ _ g), sz_lt (by show 0 < 100000; decide), ((p1.trans e3).trans e4).mut hD, .inr ⟨Nat.lt_succ_self _, q', nq, upd_same, by rw [upd_ne nq]; exact g4⟩⟩
        · exact absurd z (Nat.lt_irrefl _)
      · rw [if_neg fun z => c ((hb m hm').mp z)]
        refine ⟨p1.trans e3, ?_⟩
        rcases p2 with ⟨z, g⟩ | ⟨z, q', nq, g, g'⟩
        · exact .inl ⟨by omega, e3 _ _ g⟩
        · exact .inr ⟨by omega, q', nq, e3 _ _ g, e3 _ _ g'⟩
    · obtain ⟨p1, p2⟩ := p
      rcases p2 with ⟨z, _⟩ | ⟨z, q', nq, g, g'⟩
      · omega
      · exact hz H' H' (Ex.refl H') _ fun H2 e2 => rv_ixL (sq_of (e2 _ _ g)) rfl H2 (Ex.refl H2) Q fun H3 e3 => q _ H3 (e1.trans ((p1.trans e2).trans e3)) ⟨q', rfl, st_of (e3 _ _ (e2 _ _ g'))⟩⟩
end
end Bk
namespace Bk
open PySem PySem.Spec PyProof.Rows L2 Evl
/-! ### own classes: methods, making, properties, len and in, where the stack holds no repr -/
theorem Rm.in1 {k : Nat} {A : Around} (r : Rm (k + 1) A) : Rm k A.in1 := ⟨r.rm.in1, r.gd⟩
theorem Rm.make {k : Nat} {A : Around} (r : Rm (k + 1) A) (C : Addr) (us : List Value) (kw : List (Str × Value)) : Rm k (A.under (.builtin "type.__call__" ⟨.ref C :: us, kw⟩)) := ⟨r.rm.make C us kw, by
  have e : (A.under (.builtin "type.__call__" ⟨.ref C :: us, kw⟩)).guards = A.guards := by
    first
      | rfl
      | simp [Around.under, Code.guards, Code.isGuard, guardIds, pushGuards]
  rw [e]
  exact r.gd⟩
section
variable {X : Cx} {CX : CXT} {k : Nat} {f C p g a : Addr} {fd : FuncData} {ps : List Str} {sp : Sp} {E : XK} {x m : Str} {pos apos ppos : Pos} {e o : Expr} {es : List Expr} {ta : TE} {t : TA}
/-- o.m(e, ..) -/
theorem pe_methG {pl : Sem Bool} (he : PE X o ta) (c : Cls X.K C) (hm : Meth X.K C m f) (F : FnG X.prog X.w X.K X.mg X.base CX k f fd ps sp) (hr : Rm k X.A) (hb : Binds X.K fd ps []) (hx : Passes CX X E) (ha : PA X (e :: es) t)
    (hst : starEach (e :: es) X.env = (false, eval e X.env) :: starEach es X.env := by rfl) (hpl : (backTo pos (starEach es X.env)).any (·.1) = false := by rfl)
    (ht : eval (.Call (.Attribute o m apos) (e :: es) [] pos) X.env = (do
      let ov ← eval o X.env
      standAt apos.atName
      let (f, first) ← holding [ov] (getMethod ov m pl)
      callWith pos f first (backTo pos (starEach (e :: es) X.env)) (backToKw pos (keywordEach [] X.env))) := by rfl) :
    PE X (.Call (.Attribute o m apos) (e :: es) [] pos) (tMeth C m sp [] E ta t) := by
  refine ⟨fun pins s σ H Q I h => ?_⟩
  refine PySem.W.methodCall_KW (pl := pl) (thn (he.run pins s σ H _ I h) fun u s1 ⟨x, H1, I1, rx, a, dx, fs, ex, ea, l, q⟩ => ?_) ht
  subst ex
  obtain rfl : u = Value.ref a := rx
  refine getmeth_ok I1 ea c hm l ?_
  refine PySem.W.callWith_K (first := [.ref a]) (h₀ := X.base) I.ok.mod.kin hm.kp (thn (ha.run pos pins s1 σ H1 _ I1 q) fun us s2 ⟨vs, H2, I2, r, q2⟩ => ⟨I2.kIn, ?_⟩) hst hpl
  exact runG (us := .ref a :: us) (vs := .ref a :: vs) F hr hb .nil hx I2 (.cons rfl r) q2
/-- o.m() -/
theorem pe_methG0 {pl : Sem Bool} (he : PE X o ta) (c : Cls X.K C) (hm : Meth X.K C m f) (F : FnG X.prog X.w X.K X.mg X.base CX k f fd ps sp) (hr : Rm k X.A) (hb : Binds X.K fd ps []) (hx : Passes CX X E)
    (ht : eval (.Call (.Attribute o m apos) [] [] pos) X.env = (do
      let ov ← eval o X.env
      standAt apos.atName
      let (f, first) ← holding [ov] (getMethod ov m pl)
      callWith pos f first (backTo pos (starEach [] X.env)) (backToKw pos (keywordEach [] X.env))) := by rfl) :
    PE X (.Call (.Attribute o m apos) [] [] pos) (tMeth C m sp [] E ta tNil) := by
  refine ⟨fun pins s σ H Q I h => ?_⟩
  refine PySem.W.methodCall_KW (pl := pl) (thn (he.run pins s σ H _ I h) fun u s1 ⟨x, H1, I1, rx, a, dx, fs, ex, ea, l, q⟩ => ?_) ht
  subst ex
  obtain rfl : u = Value.ref a := rx
  refine getmeth_ok I1 ea c hm l ?_
  exact PySem.W.callWith_K0 (first := [.ref a]) I1.kIn hm.kp (runG (us := [.ref a]) (vs := [.ref a]) F hr hb .nil hx I1 (.cons rfl .nil) q)
/-- C() -/
theorem pe_makeG0 (M : Mk X.K C f) (F : FnG X.prog X.w X.K X.mg X.base CX k f fd ps sp) (hr : Rm (k + 1) X.A) (hg : Gl X x) (hm : X.mg x = some (.ref C)) (hb : Binds X.K fd ps []) (hx : Passes CX X E)
    (hdb : (x == ("__debug__" : Str)) = false := by decide) : PE X (.Call (.Name x ppos) [] [] pos) (tMake C sp [] E tNil) := by
  refine ⟨fun pins s σ H Q I h => ?_⟩
  refine wpAny_Call_Name_kw (ld_glob I hg hm ?_ hdb)
  refine PySem.W.callWith_K0 I.kIn M.kp ?_
  have hq := h (s.heap.objs.size + 1) s.heap.objs.size (I.hok.fresh (Nat.le_succ _)) (I.hok.fresh (Nat.le_refl _)) (Nat.ne_of_lt (Nat.lt_succ_self _))
  have I2 := Inv.made (C := C) I
  have hl : ([Value.ref (s.heap.objs.size + 1)] ++ ([] : List Value)).length = ps.length := (F.len _ _ _ _ hq : [V.ref (s.heap.objs.size + 1)].length = ps.length)
  refine wpAny_call (make_map (f := f) I.kIn M.makes M.init (beq_iff_eq.mp M.fn) (codeAny_mono (F.run _ X.stack _ _ ⟨[Value.ref (s.heap.objs.size + 1)], []⟩ [Value.ref (s.heap.objs.size + 1)] [V.ref (s.heap.objs.size + 1)] _ E (hr.make C [] [])
    (I2.env0.make C [] []) (hb _ [Value.ref (s.heap.objs.size + 1)] I2.kIn hl) (.cons rfl .nil) hq) fun r s' hq' => ?_))
  cases r with
  | error e => exact hx pins σ _ _ e s' I2 hq'
  | ok fl =>
    cases fl with
    | ret u =>
      obtain ⟨v, H', I3, rv, ev, q3⟩ := I2.after hq'
      subst ev
      exact ⟨rv, ⟨V.ref (s.heap.objs.size + 1), H', I3, rfl, q3⟩⟩
    | next => exact False.elim hq'
    | brk => exact False.elim hq'
    | cont => exact False.elim hq'
/-- o.f, a property -/
theorem pe_propG (he : PE X e ta) (c : Cls X.K C) (hp : PropOf X.K C x p g) (F : FnG X.prog X.w X.K X.mg X.base CX k g fd ps sp) (hr : Rm (k + 1) X.A) (hb : Binds X.K fd ps []) (hx : Passes CX X.nox E)
    (hab : attributeBase e x X.env (eval e X.env) = eval e X.env) : PE X (.Attribute e x pos) (tProp C sp [] E ta) := by
  refine ⟨fun pins s σ H Q I0 h => ?_⟩
  refine attr_of hab (thn (he.run pins s σ H _ I0 h) fun u s1 ⟨y, H1, I, rx, a, dx, fs, ex, ea, h⟩ => ?_)
  subst ex
  obtain rfl : u = Value.ref a := rx
  obtain ⟨mA, O, _, _, _, _⟩ := ins_get I.hok ea
  obtain ⟨od, J, _⟩ := O.look
  obtain ⟨rest, hrec⟩ := hp.rec_
  have I1 := I.tok (s1.toks + 1)
  have hl : ([Value.ref a] ++ ([] : List Value)).length = ps.length := (F.len _ _ _ _ h : [V.ref a].length = ps.length)
  have hc : (PySem.W.clsIn X.K C).isSome = true := by
    obtain ⟨cd, hc, _⟩ := PySem.W.any_some c.hd
    rw [hc]
    rfl
  refine PySem.W.get_bind I.kIn J (PySem.W.plainGet_of (c.get x)).1 (PySem.W.findObj_data hc hp.at_ hp.get hp.tak) (PySem.W.plainGet_of (c.get x)).2 (wpAny_call (PySem.W.prop_get (s := { s1 with toks := s1.toks + 1 }) I.kIn hrec ?_))
  refine codeAny_mono (F.run X.A.in1 X.stack { s1 with toks := s1.toks + 1 } H1 ⟨[.ref a], []⟩ [.ref a] [.ref a] Q E hr.in1 I1.env0.in1 (hb _ [.ref a] I1.kIn hl) (.cons rfl .nil) h) fun r s' hq => ?_
  cases r with
  | error er => exact False.elim (hx pins σ H1 { s1 with toks := s1.toks + 1 } er s' (I1.wish _) hq)
  | ok fl =>
    cases fl with
    | ret u =>
      obtain ⟨v, H', I3, rv, q3⟩ := I1.after hq
      show wpAny _ _ (handedOut u) _ _ _
      rw [PySem.W.handedOut_of (handed_of rv)]
      exact wpAny_pure ⟨v, H', I3, rv, q3⟩
    | next => exact False.elim hq
    | brk => exact False.elim hq
    | cont => exact False.elim hq
/-- len(o) by an own __len__ -/
def rLenO (C : Addr) (sp : Sp) (E : XK) : List V → Hp → VK → Prop := fun xs H Q => ∃ a dx fs, xs = [V.ref a] ∧ H a = some (.ins C dx fs) ∧ sp [.ref a] H (fun v H2 => ∃ n : Nat, v = .int (n : Int) ∧ n < 2 ^ 62 ∧ Q (.int (n : Int)) H2) E
theorem call_lenO (hs : Meth X.K C "__len__" f) (F : FnG X.prog X.w X.K X.mg X.base CX k f fd ps sp) (hr : Rm (k + 1) X.A) (hb : Binds X.K fd ps []) (hx : Passes CX X E) : CallR X (.builtin "len") (rLenO C sp E) := by
  intro pins s σ H xs us Q I r h
  obtain ⟨a, dx, fs, rfl, ea, h⟩ := h
  obtain ⟨u, rfl, ru⟩ := vals1 r
  cases (show u = Value.ref a from ru)
  obtain ⟨mA, O, _, _, _, _⟩ := ins_get I.hok ea
  obtain ⟨od, J, _⟩ := O.look
  obtain ⟨m, hF⟩ := I.fr
  have hl : ([Value.ref a] ++ ([] : List Value)).length = ps.length := (F.len _ _ _ _ h : [V.ref a].length = ps.length)
  refine PySem.W.len_K hF I.ok.mod.kin J hs.at_ hs.fn (wpAny_call (codeAny_mono (F.run X.A.in1 X.stack s H ⟨[.ref a], []⟩ [.ref a] [.ref a] _ E hr.in1 I.env0.in1 (hb s [.ref a] I.kIn hl) (.cons rfl .nil) h) fun r s' hq => ?_))
  have z := endG I hx r s' hq
  cases r with
  | error e => exact z
  | ok fl =>
    cases fl with
    | ret u =>
      obtain ⟨v, H', I3, rv, n, rfl, hn, q⟩ := z
      obtain ⟨tk, rfl⟩ := rv
      exact ⟨⟨by omega, by omega⟩, V.int (n : Int), H', I3.tok _, ⟨_, rfl⟩, q⟩
    | _ => exact z.elim
/-- x in o by an own __contains__ -/
def rInO (C : Addr) (sp : Sp) (E : XK) (neg : Bool) : R2 := fun x y H Q => ∃ a dx fs, y = V.ref a ∧ H a = some (.ins C dx fs) ∧ sp [.ref a, x] H (fun v H2 => ∃ b : Bool, v = .bl b ∧ Q (.bl (if neg then !b else b)) H2) E
theorem in_run {pins : List (Addr × Obj)} {s : Shared} {σ : L2.St} {H : Hp} {x : V} {u : Value} {Q : VK} {dx : Addr} {fs : List (Str × V)} {R : Bool → Shared → Prop} (F : FnG X.prog X.w X.K X.mg X.base CX k f fd ps sp) (hr : Rm k X.A) (hb : Binds X.K fd ps []) (hx : Passes CX X E)
    (I : Inv X pins σ H s) (ru : RelV x u) (h : sp [.ref a, x] H Q E) (hq : ∀ v s', EP X pins σ Q v s' → ∃ b, v = .bool b ∧ R b s') : wpAny (model X.prog X.w) X.A (call (.ref f) [.ref a, u]) (fun r s' => wpAny (model X.prog X.w) X.A (truthy r) R X.xe s') X.xe s := by
  have hl : ([Value.ref a, u] ++ ([] : List Value)).length = ps.length := (F.len _ _ _ _ h : [V.ref a, x].length = ps.length)
  refine wpAny_call (codeAny_mono (F.run X.A X.stack s H ⟨[.ref a, u], []⟩ [.ref a, u] [.ref a, x] _ E hr I.env0 (hb s [.ref a, u] I.kIn hl) (.cons rfl (.cons ru .nil)) h) fun r s' hz => ?_)
  have z := endG I hx r s' hz
  cases r with
  | error e => exact z
  | ok fl =>
    cases fl with
    | ret v =>
      obtain ⟨b, rfl, w⟩ := hq v s' z
      exact wpAny_truthy_bool w
    | _ => exact z.elim
theorem op_inO (hs : Meth X.K C "__contains__" f) (F : FnG X.prog X.w X.K X.mg X.base CX k f fd ps sp) (hr : Rm k X.A) (hb : Binds X.K fd ps []) (hx : Passes CX X E) : OpR X (compareOp .In) (rInO C sp E false) := by
  intro pins s σ H x y v u Q I rx ry h
  obtain ⟨a, dx, fs, rfl, ea, h⟩ := h
  cases (show u = Value.ref a from ry)
  obtain ⟨mA, O, _, _, _, _⟩ := ins_get I.hok ea
  obtain ⟨od, J, _⟩ := O.look
  obtain ⟨m, hF⟩ := I.fr
  refine PySem.W.in_K hF I.ok.mod.kin J hs.at_ hs.fn (in_run (dx := dx) (fs := fs) F hr hb hx I rx h fun w s' z => ?_)
  obtain ⟨v, H', I3, rv, b, rfl, q⟩ := z
  cases rv
  exact ⟨b, rfl, V.bl b, H', I3, rfl, q⟩
theorem op_notInO (hs : Meth X.K C "__contains__" f) (F : FnG X.prog X.w X.K X.mg X.base CX k f fd ps sp) (hr : Rm k X.A) (hb : Binds X.K fd ps []) (hx : Passes CX X E) : OpR X (compareOp .NotIn) (rInO C sp E true) := by
  intro pins s σ H x y v u Q I rx ry h
  obtain ⟨a, dx, fs, rfl, ea, h⟩ := h
  cases (show u = Value.ref a from ry)
  obtain ⟨mA, O, _, _, _, _⟩ := ins_get I.hok ea
  obtain ⟨od, J, _⟩ := O.look
  obtain ⟨m, hF⟩ := I.fr
  refine PySem.W.notIn_K hF I.ok.mod.kin J hs.at_ hs.fn (in_run (dx := dx) (fs := fs) F hr hb hx I rx h fun w s' z => ?_)
  obtain ⟨v, H', I3, rv, b, rfl, q⟩ := z
  cases rv
  exact ⟨b, rfl, V.bl (!b), H', I3, rfl, q⟩
end
end Bk
namespace Bk
open PySem PySem.Spec PyProof.Rows L2 Evl
/-! ### readings: own classes -/
section
variable {K : PySem.W.Frag} {σ : L2.St} {H : Hp} {ta tb te tv : TE} {t : TA} {D : Ends} {tz : TS} {p C dx : Addr} {fs : List (Str × V)} {f m : Str} {v x z : V} {vs xs : List V} {sp : Sp} {E : XK} {P : V → Hp → Prop}
theorem ev_fld (h : Ev ta σ H (.ref p)) (hp : H p = some (.ins C dx fs)) (c : Cls K C) (n : NoAttr K C f) (l : fs.lookup f = some v) : Ev (tFld K ta f) σ H v := fun H1 e Q q =>
  h H1 e _ fun H2 e2 => ⟨p, C, dx, fs, v, rfl, (e.trans e2) _ _ hp, c, n, l, q H2 e2⟩
theorem ev_meth (h : Ev ta σ H (.ref p)) (hp : H p = some (.ins C dx fs)) (l : fs.lookup m = none) (ha : EvA t σ H vs) (hs : SpV sp (.ref p :: (vs ++ [])) H z) : Ev (tMeth C m sp [] E ta t) σ H z := fun H1 e Q q =>
  h H1 e _ fun H2 e2 => ⟨p, dx, fs, rfl, (e.trans e2) _ _ hp, l, ha H2 (e.trans e2) _ fun H3 e3 => hs H3 ((e.trans e2).trans e3) Q (fun H4 e4 => q H4 ((e2.trans e3).trans e4)) E⟩
theorem el_meth (h : Ev ta σ H (.ref p)) (hp : H p = some (.ins C dx fs)) (l : fs.lookup m = none) (ha : EvA t σ H vs) (hs : SpL sp (.ref p :: (vs ++ [])) H xs) : EvL (tMeth C m sp [] E ta t) σ H xs := fun H1 e Q q =>
  h H1 e _ fun H2 e2 => ⟨p, dx, fs, rfl, (e.trans e2) _ _ hp, l, ha H2 (e.trans e2) _ fun H3 e3 => hs H3 ((e.trans e2).trans e3) Q (fun r H4 hr e4 h4 => q r H4 (fresh_back (e2.trans e3) hr) ((e2.trans e3).trans e4) h4) E⟩
theorem eu_meth (h : Ev ta σ H (.ref p)) (hp : H p = some (.ins C dx fs)) (l : fs.lookup m = none) (ha : EvA t σ H vs) (hs : SpU sp (.ref p :: (vs ++ [])) H xs) : EvU (tMeth C m sp [] E ta t) σ H xs := fun H1 e Q q =>
  h H1 e _ fun H2 e2 => ⟨p, dx, fs, rfl, (e.trans e2) _ _ hp, l, ha H2 (e.trans e2) _ fun H3 e3 => hs H3 ((e.trans e2).trans e3) Q (fun r H4 hr e4 h4 => q r H4 (fresh_back (e2.trans e3) hr) ((e2.trans e3).trans e4) h4) E⟩
theorem s_meth (h : Ev ta σ H (.ref p)) (hp : H p = some (.ins C dx fs)) (l : fs.lookup m = none) (ha : EvA t σ H vs) (k : ∀ H1, Ex H H1 → sp (.ref p :: (vs ++ [])) H1 (fun _ H2 => D.nx σ H2) E) : tDrop (tMeth C m sp [] E ta t) D σ H :=
  h H (Ex.refl H) _ fun H2 e2 => ⟨p, dx, fs, rfl, e2 _ _ hp, l, ha H2 e2 _ fun H3 e3 => k H3 (e2.trans e3)⟩
theorem q_meth (h : Ev ta σ H (.ref p)) (hp : H p = some (.ins C dx fs)) (l : fs.lookup m = none) (ha : EvA t σ H vs) (k : ∀ H1, Ex H H1 → sp (.ref p :: (vs ++ [])) H1 (fun _ H2 => tz D σ H2) E) : tSeq (tDrop (tMeth C m sp [] E ta t)) tz D σ H :=
  s_meth (D := { D with nx := tz D }) h hp l ha k
theorem ev_prop (h : Ev ta σ H (.ref p)) (hp : H p = some (.ins C dx fs)) (hs : SpV sp [.ref p] H z) : Ev (tProp C sp [] E ta) σ H z := fun H1 e Q q =>
  h H1 e _ fun H2 e2 => ⟨p, dx, fs, rfl, (e.trans e2) _ _ hp, hs H2 (e.trans e2) Q (fun H3 e3 => q H3 (e2.trans e3)) E⟩
theorem ev_lenO {n : Nat} (h : Ev ta σ H (.ref p)) (hp : H p = some (.ins C dx fs)) (hs : SpV sp [.ref p] H (.int (n : Int))) (hn : n < 2 ^ 62) : Ev (tCB (rLenO C sp E) (tCons ta tNil)) σ H (.int (n : Int)) := fun H1 e Q q =>
  h H1 e _ fun H2 e2 => ⟨p, dx, fs, rfl, (e.trans e2) _ _ hp, hs H2 (e.trans e2) _ (fun H3 e3 => ⟨n, rfl, hn, q H3 (e2.trans e3)⟩) E⟩
theorem rv_inO {b : Bool} (hp : H p = some (.ins C dx fs)) (hs : SpV sp [.ref p, x] H (.bl b)) : RV (rInO C sp E false) x (.ref p) H (.bl b) := fun H1 e Q q =>
  ⟨p, dx, fs, rfl, e _ _ hp, hs H1 e _ (fun H2 e2 => ⟨b, rfl, q H2 e2⟩) E⟩
theorem rv_notInO {b : Bool} (hp : H p = some (.ins C dx fs)) (hs : SpV sp [.ref p, x] H (.bl b)) : RV (rInO C sp E true) x (.ref p) H (.bl (!b)) := fun H1 e Q q =>
  ⟨p, dx, fs, rfl, e _ _ hp, hs H1 e _ (fun H2 e2 => ⟨b, rfl, q H2 e2⟩) E⟩
theorem q_tupU {i j : Nat} {y : V} (h : EvU te σ H [x, y]) (k : ∀ H1, Ex H H1 → tz D ((σ.set i (some x)).set j (some y)) H1) : tSeq (tAsg te (gTup K 2 (gCons (gName i) (gCons (gName j) gNil)))) tz D σ H :=
  q_tupP2 (P := fun v H1 => ∃ t, v = .ref t ∧ SqT K H1 t [x, y]) (ep_U h fun p H1 H2 _ _ _ g => ⟨p, rfl, st_of g⟩) fun v H1 e1 ⟨t, ev, ht⟩ => ⟨t, x, y, ev, ht, k H1 e1⟩
theorem s_fldL (hv : EvL tv σ H xs) (ha : ∀ H1, Ex H H1 → Ev ta σ H1 (.ref p)) (hp : H p = some (.ins C dx fs)) (c : Cls K C) (n : NoAttr K C f) (hl : fs.length < 1000)
    (k : ∀ l H1, H l = none → Ex H H1 → H1 l = some (.lst xs) → D.nx σ (upd H1 p (.ins C dx (putF f (.ref l) fs)))) : sFld K ta tv f D σ H :=
  hv H (Ex.refl H) _ fun l H1 hl0 e1 h1 => ha H1 e1 H1 (Ex.refl H1) _ fun H2 e2 => ⟨p, C, dx, fs, rfl, (e1.trans e2) _ _ hp, c, n, hl, k l H2 hl0 (e1.trans e2) (e2 _ _ h1)⟩
theorem q_fldL (hv : EvL tv σ H xs) (ha : ∀ H1, Ex H H1 → Ev ta σ H1 (.ref p)) (hp : H p = some (.ins C dx fs)) (c : Cls K C) (n : NoAttr K C f) (hl : fs.length < 1000)
    (k : ∀ l H1, H l = none → Ex H H1 → H1 l = some (.lst xs) → tz D σ (upd H1 p (.ins C dx (putF f (.ref l) fs)))) : tSeq (sFld K ta tv f) tz D σ H :=
  s_fldL (D := { D with nx := tz D }) hv ha hp c n hl k
end
/-! repr of a number; more of drawn lists -/
section
variable {K : PySem.W.Frag} {σ : L2.St} {H : Hp} {ta tb te tl : TE} {a : Addr} {d d1 d2 n : Nat} {D : Ends} {tz : TS} {sp : Sp} {E : XK}
theorem ev_reprI {i : Int} (h : Ev te σ H (.int i)) (hz : i.natAbs.log2 < 1920) : Ev (tCB (fun xs H Q => ∃ i, xs = [V.int i] ∧ i.natAbs.log2 < 1920 ∧ Q (.str (toString i)) H) (tCons te tNil)) σ H (.str (toString i)) := fun H1 e Q q =>
  h H1 e _ fun H2 e2 => ⟨i, rfl, hz, q H2 e2⟩
theorem ew_intB (h : EvW a d te σ H (fun v => ∃ b, v = .bl b)) : EvW a d (tCB (fun xs H Q => (∃ i, xs = [V.int i] ∧ Q (.int i) H) ∨ ∃ k, xs = [V.bl k] ∧ Q (.int (if k then 1 else 0)) H) (tCons te tNil)) σ H (fun v => ∃ r, v = .int r ∧ (r = 0 ∨ r = 1)) := fun n H1 b w l Q q =>
  h n H1 b w l _ fun v H2 b2 w2 ⟨c, e⟩ => .inr ⟨c, by rw [e], q _ H2 b2 w2 (by
    cases c with
    | true => exact ⟨1, rfl, .inr rfl⟩
    | false => exact ⟨0, rfl, .inl rfl⟩)⟩
theorem ew_callL {v : V} {PL : List V → Prop} (h : EvWL a d te σ H PL) (hs : ∀ p xs H1, H1 p = some (.lst xs) → PL xs → SpV sp [.ref p] H1 v) : EvW a d (tCall sp [] E (tCons te tNil)) σ H (fun z => z = v) := fun n H1 bt w l Q q =>
  h n H1 bt w l _ fun p xs H2 hp b2 w2 g2 px => hs p xs H2 g2 px H2 (Ex.refl H2) Q (fun H3 e3 => q v H3 (b2.trans (But.ex e3)) (w2.ex e3) rfl) E
theorem q_asgRaw {i : Nat} (h : te σ H fun v H1 => tz D (σ.set i (some v)) H1) : tSeq (tAsg te (gName i)) tz D σ H := h
end
/-! ### what is kept but at some places -/
def Off (S : List Addr) (H H' : Hp) : Prop := ∀ b o, b ∉ S → H b = some o → H' b = some o
theorem Off.ex {S : List Addr} {H H' : Hp} (e : Ex H H') : Off S H H' := fun b o _ h => e b o h
theorem Off.but {a : Addr} {S : List Addr} {H H' : Hp} (e : But a H H') (h : a ∈ S) : Off S H H' := fun b o n g => e b o (fun z => n (z ▸ h)) g
theorem Off.trans {S : List Addr} {H H1 H2 : Hp} (x : Off S H H1) (y : Off S H1 H2) : Off S H H2 := fun b o n h => y b o n (x b o n h)
theorem Off.more {S S' : List Addr} {H H' : Hp} (x : Off S H H') (h : ∀ a ∈ S, a ∈ S') : Off S' H H' := fun b o n g => x b o (fun z => n (h b z)) g
theorem Off.back {S : List Addr} {H0 H H' : Hp} (e : Ex H0 H) (x : Off S H H') (h : ∀ a ∈ S, H0 a = none) : Ex H0 H' := fun b o g => x b o (fun z => by
  have := h b z
  rw [this] at g
  cases g) (e b o g)
theorem Off.less {S S' : List Addr} {H H' : Hp} (x : Off S H H') (h : ∀ a ∈ S, a ∉ S' → H a = none) : Off S' H H' := fun b o n g => x b o (fun z => by
  have := h b z n
  rw [this] at g
  cases g) g
end Bk
namespace Bk
open PySem PySem.Spec PyProof.Rows L2 Evl
/-- o.m(..), what is raised is wished for at the caller's slots -/
def tMethS (C : Addr) (m : Str) (sp : Sp) (E : L2.St → XK) (ta : TE) (t : TA) : TE := fun σ H Q => ta σ H fun x H1 => ∃ a dx fs, x = .ref a ∧ H1 a = some (.ins C dx fs) ∧ fs.lookup m = none ∧ t σ H1 fun vs H2 => sp (x :: vs) H2 Q (E σ)
section
variable {X : Cx} {CX : CXT} {k : Nat} {f C : Addr} {fd : FuncData} {ps ks : List Str} {sp : Sp} {E : L2.St → XK} {E0 : XK} {m : Str} {pos apos : Pos} {e o : Expr} {es : List Expr} {kws : List Keyword} {ta : TE} {t tk : TA}
theorem pe_methGS {pl : Sem Bool} (he : PE X o ta) (c : Cls X.K C) (hm : Meth X.K C m f) (F : FnG X.prog X.w X.K X.mg X.base CX k f fd ps sp) (hr : Rm k X.A) (hb : Binds X.K fd ps []) (hx : ∀ σ, PassesAt CX X σ (E σ)) (ha : PA X (e :: es) t)
    (hst : starEach (e :: es) X.env = (false, eval e X.env) :: starEach es X.env := by rfl) (hpl : (backTo pos (starEach es X.env)).any (·.1) = false := by rfl)
    (ht : eval (.Call (.Attribute o m apos) (e :: es) [] pos) X.env = (do
      let ov ← eval o X.env
      standAt apos.atName
      let (f, first) ← holding [ov] (getMethod ov m pl)
      callWith pos f first (backTo pos (starEach (e :: es) X.env)) (backToKw pos (keywordEach [] X.env))) := by rfl) :
    PE X (.Call (.Attribute o m apos) (e :: es) [] pos) (tMethS C m sp E ta t) := by
  refine ⟨fun pins s σ H Q I h => ?_⟩
  refine PySem.W.methodCall_KW (pl := pl) (thn (he.run pins s σ H _ I h) fun u s1 ⟨x, H1, I1, rx, a, dx, fs, ex, ea, l, q⟩ => ?_) ht
  subst ex
  obtain rfl : u = Value.ref a := rx
  refine getmeth_ok I1 ea c hm l ?_
  refine PySem.W.callWith_K (first := [.ref a]) (h₀ := X.base) I.ok.mod.kin hm.kp (thn (ha.run pos pins s1 σ H1 _ I1 q) fun us s2 ⟨vs, H2, I2, r, q2⟩ => ⟨I2.kIn, ?_⟩) hst hpl
  exact runGS (us := .ref a :: us) (vs := .ref a :: vs) F hr hb (hx σ) I2 (.cons rfl r) q2
theorem pe_methGS0 {pl : Sem Bool} (he : PE X o ta) (c : Cls X.K C) (hm : Meth X.K C m f) (F : FnG X.prog X.w X.K X.mg X.base CX k f fd ps sp) (hr : Rm k X.A) (hb : Binds X.K fd ps []) (hx : ∀ σ, PassesAt CX X σ (E σ))
    (ht : eval (.Call (.Attribute o m apos) [] [] pos) X.env = (do
      let ov ← eval o X.env
      standAt apos.atName
      let (f, first) ← holding [ov] (getMethod ov m pl)
      callWith pos f first (backTo pos (starEach [] X.env)) (backToKw pos (keywordEach [] X.env))) := by rfl) :
    PE X (.Call (.Attribute o m apos) [] [] pos) (tMethS C m sp E ta tNil) := by
  refine ⟨fun pins s σ H Q I h => ?_⟩
  refine PySem.W.methodCall_KW (pl := pl) (thn (he.run pins s σ H _ I h) fun u s1 ⟨x, H1, I1, rx, a, dx, fs, ex, ea, l, q⟩ => ?_) ht
  subst ex
  obtain rfl : u = Value.ref a := rx
  refine getmeth_ok I1 ea c hm l ?_
  exact PySem.W.callWith_K0 (first := [.ref a]) I1.kIn hm.kp (runGS (us := [.ref a]) (vs := [.ref a]) F hr hb (hx σ) I1 (.cons rfl .nil) q)
theorem runGKS {pins : List (Addr × Obj)} {σ : L2.St} {H : Hp} {s : Shared} {Q : VK} {us ws : List Value} {vs zs : List V} {g : List Value → List Value → List Value} {gV : List V → List V → List V} (F : FnG X.prog X.w X.K X.mg X.base CX k f fd ps sp) (hr : Rm k X.A) (hb : KBinds X.K fd ps ks g gV) (hx : PassesAt CX X σ (E σ))
    (I : Inv X pins σ H s) (r : Vals vs us) (rz : Vals zs ws) (h : sp (gV vs zs) H Q (E σ)) : wpAny (model X.prog X.w) X.A (call (.ref f) us (ks.zip ws)) (EP X pins σ Q) X.xe s := by
  have rv := hb.rel r rz
  have hl : (g us ws).length = ps.length := rv.length.symm.trans (F.len _ _ _ _ h)
  refine wpAny_call (codeAny_mono (F.run X.A X.stack s H ⟨us, ks.zip ws⟩ (g us ws) (gV vs zs) Q (E σ) hr I.env0 (hb.to s us ws I.kIn hl) rv h) fun r s' hq => ?_)
  cases r with
  | error e => exact hx pins H s e s' I hq
  | ok fl =>
    cases fl with
    | ret u => exact I.after hq
    | next => exact hq.elim
    | brk => exact hq.elim
    | cont => exact hq.elim
/-- o.m(k = e) in a try -/
def tMethKS (C : Addr) (m : Str) (sp : Sp) (gV : List V → List V → List V) (E : L2.St → XK) (ta : TE) (tk : TA) : TE := fun σ H Q => ta σ H fun x H1 => ∃ a dx fs, x = .ref a ∧ H1 a = some (.ins C dx fs) ∧ fs.lookup m = none ∧ tk σ H1 fun zs H2 => sp (gV [x] zs) H2 Q (E σ)
theorem pe_methGSK {pl : Sem Bool} {g : List Value → List Value → List Value} {gV : List V → List V → List V} (he : PE X o ta) (c : Cls X.K C) (hm : Meth X.K C m f) (F : FnG X.prog X.w X.K X.mg X.base CX k f fd ps sp) (hr : Rm k X.A) (hb : KBinds X.K fd ps ks g gV) (hx : ∀ σ, PassesAt CX X σ (E σ)) (hkw : PK X kws tk)
    (hall : (backToKw pos (keywordEach kws X.env)).all (·.1.isSome) = true := by rfl) (hks : (backToKw pos (keywordEach kws X.env)).filterMap (·.1) = ks := by rfl)
    (hpl : ((backTo pos (starEach [] X.env)).any (·.1) || (backToKw pos (keywordEach kws X.env)).any (·.1.isNone)) = false := by rfl)
    (ht : eval (.Call (.Attribute o m apos) [] kws pos) X.env = (do
      let ov ← eval o X.env
      standAt apos.atName
      let (f, first) ← holding [ov] (getMethod ov m pl)
      callWith pos f first (backTo pos (starEach [] X.env)) (backToKw pos (keywordEach kws X.env))) := by rfl) :
    PE X (.Call (.Attribute o m apos) [] kws pos) (tMethKS C m sp gV E ta tk) := by
  refine ⟨fun pins s σ H Q I h => ?_⟩
  refine PySem.W.methodCall_KW (pl := pl) (thn (he.run pins s σ H _ I h) fun u s1 ⟨x, H1, I1, rx, a, dx, fs, ex, ea, l, q⟩ => ?_) ht
  subst ex
  obtain rfl : u = Value.ref a := rx
  refine getmeth_ok I1 ea c hm l ?_
  refine PySem.W.callWith_KW0 (first := [.ref a]) (h₀ := X.base) I.ok.mod.kin hm.kp hall (thn (hkw.run pos pins s1 σ H1 _ I1 q) ?_) hpl
  intro ws s2 ⟨zs, H2, I2, rz, q2⟩
  refine ⟨I2.kIn, ?_⟩
  rw [hks]
  exact runGKS (us := [.ref a]) (vs := [.ref a]) F hr hb (hx σ) I2 (.cons rfl .nil) rz q2
end
section
variable {K : PySem.W.Frag} {σ : L2.St} {H : Hp} {ta te : TE} {t tk : TA} {D : Ends} {tz : TS} {p C dx : Addr} {fs : List (Str × V)} {m : Str} {v : V} {vs zs : List V} {sp : Sp} {E : L2.St → XK} {i : Nat}
/-- x = o.m(..) in a try -/
theorem s_asgMS (h : Ev ta σ H (.ref p)) (hp : H p = some (.ins C dx fs)) (l : fs.lookup m = none) (ha : EvA t σ H vs) (k : ∀ H1, Ex H H1 → sp (.ref p :: vs) H1 (fun v H2 => D.nx (σ.set i (some v)) H2) (E σ)) : tAsg (tMethS C m sp E ta t) (gName i) D σ H :=
  h H (Ex.refl H) _ fun H2 e2 => ⟨p, dx, fs, rfl, e2 _ _ hp, l, ha H2 e2 _ fun H3 e3 => k H3 (e2.trans e3)⟩
theorem s_asgMKS {gV : List V → List V → List V} (h : Ev ta σ H (.ref p)) (hp : H p = some (.ins C dx fs)) (l : fs.lookup m = none) (ha : EvA tk σ H zs) (k : ∀ H1, Ex H H1 → sp (gV [.ref p] zs) H1 (fun v H2 => D.nx (σ.set i (some v)) H2) (E σ)) : tAsg (tMethKS C m sp gV E ta tk) (gName i) D σ H :=
  h H (Ex.refl H) _ fun H2 e2 => ⟨p, dx, fs, rfl, e2 _ _ hp, l, ha H2 e2 _ fun H3 e3 => k H3 (e2.trans e3)⟩
theorem s_methS (h : Ev ta σ H (.ref p)) (hp : H p = some (.ins C dx fs)) (l : fs.lookup m = none) (ha : EvA t σ H vs) (k : ∀ H1, Ex H H1 → sp (.ref p :: vs) H1 (fun _ H2 => D.nx σ H2) (E σ)) : tDrop (tMethS C m sp E ta t) D σ H :=
  h H (Ex.refl H) _ fun H2 e2 => ⟨p, dx, fs, rfl, e2 _ _ hp, l, ha H2 e2 _ fun H3 e3 => k H3 (e2.trans e3)⟩
theorem rv_addS {x y : Str} (h : x.length + y.length ≤ 100000) : RV (fun x y H Q => ∃ i j, x = V.str i ∧ y = V.str j ∧ i.length + j.length ≤ sizeLine ∧ Q (.str (i ++ j)) H) (.str x) (.str y) H (.str (x ++ y)) := fun H1 e Q q =>
  ⟨x, y, rfl, rfl, sz_of h, q H1 (Ex.refl H1)⟩
theorem ev_strI {i : Int} (h : Ev te σ H (.int i)) (hz : i.natAbs.log2 < 1920) : Ev (tCB (fun xs H Q => ∃ i, xs = [V.int i] ∧ i.natAbs.log2 < 1920 ∧ Q (.str (toString i)) H) (tCons te tNil)) σ H (.str (toString i)) := fun H1 e Q q =>
  h H1 e _ fun H2 e2 => ⟨i, rfl, hz, q H2 e2⟩
theorem str_len {i : Int} (h : i.natAbs.log2 < 1900) : (toString i : Str).length ≤ 1901 := by
  have := shown_le (k := 1900) (ns := [i]) (by decide) (fun n hn => by rw [List.mem_singleton.mp hn]; exact h) (toString i : Str) (by
    rw [shownAll_ints]
    exact List.mem_singleton.mpr rfl)
  exact this
/-- xs.pop() -/
theorem s_pop {l : Addr} {xs : List V} {y : V} (h : Ev ta σ H (.ref l)) (hl : H l = some (.lst (xs ++ [y]))) (k : ∀ H1, Ex H H1 → D.nx σ (upd H1 l (.lst xs))) : tDrop (tBM0 K "list" rPop ta) D σ H :=
  h H (Ex.refl H) _ fun H2 e2 => ⟨.inl ⟨rfl, xs ++ [y], sq_of (e2 _ _ hl)⟩, l, xs ++ [y], y, rfl, rfl, e2 _ _ hl, by simp, by rw [List.dropLast_concat]; exact k H2 e2⟩
theorem q_pop {l : Addr} {xs : List V} {y : V} (h : Ev ta σ H (.ref l)) (hl : H l = some (.lst (xs ++ [y]))) (k : ∀ H1, Ex H H1 → tz D σ (upd H1 l (.lst xs))) : tSeq (tDrop (tBM0 K "list" rPop ta)) tz D σ H :=
  s_pop (D := { D with nx := tz D }) h hl k
end
end Bk
namespace Bk
open PySem PySem.Spec PyProof.Rows L2 Evl
/-! ### values of other kinds -/
/-- a value that is no integer: None, a truth, a text, a list, a tuple, a dict -/
def OddV (H : Hp) (x : V) : Prop := x = .non ∨ (∃ b, x = .bl b) ∨ (∃ s, x = .str s) ∨ (∃ a xs, x = .ref a ∧ H a = some (.lst xs)) ∨ (∃ a xs, x = .ref a ∧ H a = some (.tup xs)) ∨ (∃ a kvs, x = .ref a ∧ H a = some (.dK kvs))
theorem OddV.ex {H H' : Hp} {x : V} (h : OddV H x) (e : Ex H H') : OddV H' x := by
  rcases h with h | h | h | ⟨a, xs, h, g⟩ | ⟨a, xs, h, g⟩ | ⟨a, xs, h, g⟩
  · exact .inl h
  · exact .inr (.inl h)
  · exact .inr (.inr (.inl h))
  · exact .inr (.inr (.inr (.inl ⟨a, xs, h, e _ _ g⟩)))
  · exact .inr (.inr (.inr (.inr (.inl ⟨a, xs, h, e _ _ g⟩))))
  · exact .inr (.inr (.inr (.inr (.inr ⟨a, xs, h, e _ _ g⟩))))
theorem kb_none_int : kitB "NoneType" "int" = some false := by decide +kernel
theorem kb_bool_int : kitB "bool" "int" = some true := by decide +kernel
theorem kb_bool_bool : kitB "bool" "bool" = some true := by decide +kernel
theorem kb_str_int : kitB "str" "int" = some false := by decide +kernel
theorem kb_list_int : kitB "list" "int" = some false := by decide +kernel
theorem kb_tuple_int : kitB "tuple" "int" = some false := by decide +kernel
theorem kb_dict_int : kitB "dict" "int" = some false := by decide +kernel
section
variable {K : PySem.W.Frag} {σ : L2.St} {H : Hp} {ta tb te tl : TE} {t tr : TA} {D : Ends} {tu tz : TS} {v : V} {P : V → Hp → Prop} {PL : List V → Hp → Prop} {n : Nat}
/-- isinstance(x, int) and not isinstance(x, bool), of a value of another kind -/
theorem ev_odd {x : V} (h : Ev ta σ H x) (h2 : Ev tb σ H x) (o : OddV H x) : Ev (tAndV (tCB (rIsi K) (tCons ta (tCons (tC (.ty "int")) tNil))) (tNotV (tCB (rIsi K) (tCons tb (tCons (tC (.ty "bool")) tNil))))) σ H (.bl false) := by
  rcases o with rfl | ⟨b, rfl⟩ | ⟨s, rfl⟩ | ⟨a, xs, rfl, g⟩ | ⟨a, xs, rfl, g⟩ | ⟨a, kvs, rfl, g⟩
  · exact ev_andV (a := false) (b := false) (ev_isi h (fun _ _ => .base .non) kb_none_int) (fun h => nomatch h)
  · exact ev_andV (a := true) (b := false) (ev_isi h (fun _ _ => .base (.bl b)) kb_bool_int) fun _ => ev_notV (ev_isi h2 (fun _ _ => .base (.bl b)) kb_bool_bool)
  · exact ev_andV (a := false) (b := false) (ev_isi h (fun _ _ => .base (.str s)) kb_str_int) (fun h => nomatch h)
  · exact ev_andV (a := false) (b := false) (ev_isi h (fun _ e => .base (.lst (e _ _ g))) kb_list_int) (fun h => nomatch h)
  · exact ev_andV (a := false) (b := false) (ev_isi h (fun _ e => .base (.tup (e _ _ g))) kb_tuple_int) (fun h => nomatch h)
  · exact ev_andV (a := false) (b := false) (ev_isi h (fun _ e => .base (.dK (e _ _ g))) kb_dict_int) (fun h => nomatch h)
theorem ep_V (h : Ev te σ H v) (k : ∀ H1, Ex H H1 → P v H1) : EvP te σ H P := fun H1 e Q q => h H1 e _ fun H2 e2 => q v H2 e2 (k H2 (e.trans e2))
theorem ep_D (k : ∀ p H1, H1 p = some (.dK []) → P (.ref p) H1) : EvP tDNewK σ H P := fun H1 e Q q p hp => q (.ref p) _ (Ex.new hp) (k p _ upd_same)
theorem ed_V {d : PyData} (h : Ev te σ H v) (hd : ∀ H1, Dp K H1 v d) : EvD K te σ H d := ep_V h fun H1 _ => hd H1
theorem sho_bool (b : Bool) : Sho (.bool b) := by cases b <;> exact ⟨rfl, rfl, by decide, by rw [sizeLine_eq]; decide⟩
/-- arguments, with what is known of them -/
def EvAP (t : TA) (σ : L2.St) (H : Hp) (P : List V → Hp → Prop) : Prop := ∀ H1, Ex H H1 → ∀ Q : List V → Hp → Prop, (∀ vs H2, Ex H1 H2 → P vs H2 → Q vs H2) → t σ H1 Q
def AllP (P : V → Hp → Prop) (n : Nat) (vs : List V) (H : Hp) : Prop := vs.length = n ∧ ∀ v ∈ vs, P v H
theorem ap_nil : EvAP tNil σ H (AllP P 0) := fun H1 e Q q => q [] H1 (Ex.refl H1) ⟨rfl, fun _ h => nomatch h⟩
theorem ap_cons (mono : ∀ v H1 H2, Ex H1 H2 → P v H1 → P v H2) (h : EvP te σ H P) (hr : EvAP tr σ H (AllP P n)) : EvAP (tCons te tr) σ H (AllP P (n + 1)) := fun H1 e Q q =>
  h H1 e _ fun x H2 e2 px => hr H2 (e.trans e2) _ fun xs H3 e3 ⟨l, pxs⟩ => q (x :: xs) H3 (e2.trans e3) ⟨by rw [List.length_cons, l], fun v hv => by
    rcases List.mem_cons.mp hv with rfl | hv
    · exact mono _ _ _ e3 px
    · exact pxs v hv⟩
/-- a new list, with what is known of its items -/
def EvLP (te : TE) (σ : L2.St) (H : Hp) (P : List V → Hp → Prop) : Prop := ∀ H1, Ex H H1 → ∀ Q : VK, (∀ p xs H2, H1 p = none → Ex H1 H2 → H2 p = some (.lst xs) → P xs H2 → Q (.ref p) H2) → te σ H1 Q
theorem el_lstP (mono : ∀ v H1 H2, Ex H1 H2 → P v H1 → P v H2) (h : EvAP t σ H (AllP P n)) (hn : n ≤ 100000) : EvLP (tLst t) σ H (AllP P n) := fun H1 e Q q =>
  h H1 e _ fun xs H2 e2 ⟨l, px⟩ => ⟨sz_of (by omega), fun p hp => q p xs _ (fresh_back e2 hp) (e2.trans (Ex.new hp)) upd_same ⟨l, fun v hv => mono _ _ _ (Ex.new hp) (px v hv)⟩⟩
theorem s_forLP {j : Nat} (h : EvLP tl σ H PL) (Pv : Addr → List V → Nat → L2.St → Hp → Prop) (h0 : ∀ p xs H1, H p = none → Ex H H1 → H1 p = some (.lst xs) → PL xs H1 → Pv p xs 0 σ H1)
    (hl : ∀ p xs i σ' H', i ≤ xs.length → Pv p xs i σ' H' → SqL K H' p xs)
    (hs : ∀ p xs i x σ' H', xs[i]? = some x → Pv p xs i σ' H' → tu { D with nx := Pv p xs (i + 1), ct := Pv p xs (i + 1), bk := D.nx } (σ'.set j (some x)) H') (hd : ∀ p xs σ' H', Pv p xs xs.length σ' H' → D.nx σ' H') : tFor (iList K tl) (gName j) tu D σ H :=
  h H (Ex.refl H) _ fun p xs H1 hp e h1 px => ⟨p, rfl, ⟨xs, sq_of h1⟩, for_list (Pv p xs) (h0 p xs H1 hp e h1 px) (hl p xs) (fun i x σ' H' hx k => hs p xs i x σ' H' hx k) (hd p xs)⟩
theorem q_forLP {j : Nat} (h : EvLP tl σ H PL) (Pv : Addr → List V → Nat → L2.St → Hp → Prop) (h0 : ∀ p xs H1, H p = none → Ex H H1 → H1 p = some (.lst xs) → PL xs H1 → Pv p xs 0 σ H1)
    (hl : ∀ p xs i σ' H', i ≤ xs.length → Pv p xs i σ' H' → SqL K H' p xs)
    (hs : ∀ p xs i x σ' H', xs[i]? = some x → Pv p xs i σ' H' → tu { D with nx := Pv p xs (i + 1), ct := Pv p xs (i + 1), bk := tz D } (σ'.set j (some x)) H') (hd : ∀ p xs σ' H', Pv p xs xs.length σ' H' → tz D σ' H') : tSeq (tFor (iList K tl) (gName j) tu) tz D σ H :=
  s_forLP (D := { D with nx := tz D }) h Pv h0 hl hs hd
theorem oddmono : ∀ (v : V) (H1 H2 : Hp), Ex H1 H2 → OddV H1 v → OddV H2 v := fun _ _ _ e h => h.ex e
theorem eo_V (h : Ev te σ H v) (k : v = .non ∨ (∃ b, v = .bl b) ∨ (∃ s, v = .str s)) : EvP te σ H (fun v H1 => OddV H1 v) := ep_V h fun H1 _ => by
  rcases k with k | k | k
  · exact .inl k
  · exact .inr (.inl k)
  · exact .inr (.inr (.inl k))
theorem eo_L {xs : List V} (h : EvL te σ H xs) : EvP te σ H (fun v H1 => OddV H1 v) := ep_L h fun p H1 H2 _ _ _ g => .inr (.inr (.inr (.inl ⟨p, xs, rfl, g⟩)))
theorem eo_U {xs : List V} (h : EvU te σ H xs) : EvP te σ H (fun v H1 => OddV H1 v) := ep_U h fun p H1 H2 _ _ _ g => .inr (.inr (.inr (.inr (.inl ⟨p, xs, rfl, g⟩))))
theorem eo_D : EvP tDNewK σ H (fun v H1 => OddV H1 v) := ep_D fun p H1 g => .inr (.inr (.inr (.inr (.inr ⟨p, [], rfl, g⟩))))
end
end Bk
namespace Bk
open PySem PySem.Spec PyProof.Rows L2 Evl
/-! ### counting and finding flat items -/
def rCountF (K : PySem.W.Frag) : V → List V → Hp → VK → Prop := fun x xs H Q => ∃ (a : Addr) (ys : List V) (y : V), x = V.ref a ∧ xs = [y] ∧ SqL K H a ys ∧ flatV y = true ∧ ys.all flatV = true ∧ Q (.int ((ys.countP fun z => eqV z y : Nat) : Int)) H
theorem countP_flat {y : V} {ys : List V} {us : List Value} (h : Vals ys us) (f : ys.all flatV = true) : us.countP (eqU y) = ys.countP fun z => eqV z y := by
  induction h with
  | nil => rfl
  | cons r rs ih =>
    rw [List.all_cons, Bool.and_eq_true] at f
    rw [List.countP_cons, List.countP_cons, ih f.2, eqU_of r f.1]
theorem mt_countF {X : Cx} {K : PySem.W.Frag} (hK : X.K = K) : MtR X "list.count" (rCountF K) := by
  subst hK
  intro pins s σ H x xs v us Q I rx rxs h
  obtain ⟨a, ys, y, rfl, rfl, hs, fy, fys, q⟩ := h
  cases rx
  cases rxs with
  | cons ry rt =>
    rename_i uy ut
    cases rt
    obtain ⟨its, rv, ⟨⟨cls, dd, data, sl⟩, n, ho, hc, hdn, hd⟩, hlen⟩ := I.list hs
    simp only at hc hd
    subst hc hd
    refine call_meets PySem.F.slot_list_count ⟨_, ho, rfl⟩ PySem.F.entry_list_count (PySem.F.args_list_count_2 _ _) (SeqAt.list_countAt a its.toArray n dd sl uy (eqU y)) ⟨ho, fun u' hu' => mem_eqAt ry fy rv fys u' (by simpa using hu'), ?_⟩
    rw [show its.toArray.toList = its from rfl, countP_flat rv fys]
    exact ⟨.int _, H, I.tok _, ⟨_, rfl⟩, q⟩
theorem mt_indexK {X : Cx} {K : PySem.W.Frag} (hK : X.K = K) : MtR X "list.index" (rIndex K) := by
  subst hK
  exact mt_index
section
variable {K : PySem.W.Frag} {σ : L2.St} {H : Hp} {ta tb : TE}
def vb (bs : List Bool) : List V := bs.map .bl
theorem vb_flat : ∀ bs : List Bool, (vb bs).all flatV = true
  | [] => rfl
  | _ :: r => by
    show (flatV _ && (vb r).all flatV) = true
    rw [vb_flat r]
    rfl
theorem vb_count : ∀ bs : List Bool, ((vb bs).countP fun z => eqV z (.bl true)) = bs.count true
  | [] => rfl
  | b :: r => by
    show ((V.bl b :: vb r).countP fun z => eqV z (.bl true)) = _
    rw [List.countP_cons, List.count_cons, vb_count r]
    cases b <;> rfl
theorem ev_countB {l : Addr} {bs : List Bool} (ha : Ev ta σ H (.ref l)) (h : H l = some (.lst (vb bs))) (hb : Ev tb σ H (.bl true)) : Ev (tBM K "list" (rCountF K) ta (tCons tb tNil)) σ H (.int ((bs.count true : Nat) : Int)) := fun H1 e Q q =>
  ha H1 e _ fun H2 e2 => ⟨Or.inl ⟨rfl, _, sq_of ((e.trans e2) _ _ h)⟩, hb H2 (e.trans e2) _ fun H3 e3 => ⟨l, vb bs, .bl true, rfl, rfl, sq_of (((e.trans e2).trans e3) _ _ h), rfl, vb_flat bs, by
    rw [vb_count]
    exact q H3 (e2.trans e3)⟩⟩
theorem ev_indexB {l : Addr} {bs : List Bool} {j : Nat} (ha : Ev ta σ H (.ref l)) (h : H l = some (.lst (vb bs))) (hb : Ev tb σ H (.bl true)) (hj : bs[j]? = some true) (hn : ∀ m, m < j → bs[m]? = some false) : Ev (tBM K "list" (rIndex K) ta (tCons tb tNil)) σ H (.int (j : Nat)) := fun H1 e Q q =>
  ha H1 e _ fun H2 e2 => ⟨Or.inl ⟨rfl, _, sq_of ((e.trans e2) _ _ h)⟩, hb H2 (e.trans e2) _ fun H3 e3 => ⟨l, vb bs, .bl true, j, .bl true, rfl, rfl, sq_of (((e.trans e2).trans e3) _ _ h), rfl, vb_flat bs, by
    show (bs.map V.bl)[j]? = _
    rw [List.getElem?_map, hj]
    rfl, rfl, fun m z hm hz => by
    have hz : (bs.map V.bl)[m]? = some z := hz
    rw [List.getElem?_map, hn m hm] at hz
    cases hz
    rfl, q H3 (e2.trans e3)⟩⟩
end
section
variable {K : PySem.W.Frag} {σ : L2.St} {H : Hp} {ta tb te tl : TE} {t : TA} {D : Ends} {tu tz : TS} {P : V → Hp → Prop} {PL : List V → Hp → Prop} {n : Nat}
/-- [(y, x, z) for x in a new list] -/
theorem el_lcTup {j : Nat} {vs : List Nat} {y z : V} (mono : ∀ v H1 H2, Ex H1 H2 → P v H1 → P v H2) (h : EvLP tl σ H (AllP P n)) (hn : n ≤ 40000) (hw : ∀ x, wipe ((wipe σ vs).set j (some x)) vs = wipe σ vs) (he : ∀ x H1, Ex H H1 → EvU te ((wipe σ vs).set j (some x)) H1 [y, x, z]) :
    EvLP (tLc (iList K tl) (gName j) tYes te vs) σ H (fun ys H2 => ys.length = n ∧ ∀ v ∈ ys, ∃ (t : Addr) (x : V), v = .ref t ∧ H2 t = some (.tup [y, x, z]) ∧ P x H2) := fun H0 e Q q =>
  h H0 e _ fun a xs H1 ha e1 hx ⟨hl, px⟩ => ⟨a, rfl, ⟨xs, sq_of hx⟩, fun Dl hD =>
    lc_list (xs := xs) (fun i H' => Ex H1 H' ∧ ∃ acc : List V, H' Dl = some (.lst acc) ∧ acc.length = i ∧ ∀ v ∈ acc, ∃ (t : Addr) (x : V), v = .ref t ∧ t ≠ Dl ∧ H' t = some (.tup [y, x, z]) ∧ x ∈ xs) ⟨Ex.new hD, [], upd_same, rfl, fun _ h => nomatch h⟩ (fun i H' _ p => sq_of (p.1 _ _ hx)) (fun i x H' hi p => ⟨hw x, by
      obtain ⟨p1, acc, g, la, pa⟩ := p
      have hi' := (List.getElem?_eq_some_iff.mp hi).1
      refine et_yes (σ := (wipe σ vs).set j (some x)) (H := H') H' (Ex.refl H') _ fun H3 e3 => iteT ?_
      refine he x H3 (((e.trans e1).trans p1).trans e3) H3 (Ex.refl H3) _ fun t H4 ht e4 g4 => ?_
      have nt : t ≠ Dl := fun q => by
        rw [q, e3 _ _ g] at ht
        cases ht
      have e34 := e3.trans e4
      refine ⟨acc, e34 _ _ g, sz_lt (by omega), (p1.trans e34).mut hD, acc ++ [.ref t], upd_same, by rw [List.length_append, la]; rfl, fun v hv => ?_⟩
      rcases List.mem_append.mp hv with hv | hv
      · obtain ⟨t', x', ev, nt', gt', mx⟩ := pa v hv
        exact ⟨t', x', ev, nt', by rw [upd_ne nt']; exact e34 _ _ gt', mx⟩
      · rw [List.mem_singleton.mp hv]
        exact ⟨t, x, rfl, nt, by rw [upd_ne nt]; exact g4, List.mem_of_getElem? hi⟩⟩)
    (fun H' ⟨p1, acc, g, la, pa⟩ => q Dl acc H' (fresh_back e1 hD) (e1.trans p1) g ⟨by omega, fun v hv => by
      obtain ⟨t', x', ev, nt', gt', mx⟩ := pa v hv
      exact ⟨t', x', ev, gt', mono _ _ _ p1 (px x' mx)⟩⟩)⟩
theorem elp_mono {PL' : List V → Hp → Prop} (h : EvLP te σ H PL) (m : ∀ xs H1, Ex H H1 → PL xs H1 → PL' xs H1) : EvLP te σ H PL' := fun H1 e Q q => h H1 e Q fun p xs H2 hp e2 g pl => q p xs H2 hp e2 g (m xs H2 (e.trans e2) pl)
theorem el_catP {p : Addr} {xs : List V} (ha : Ev ta σ H (.ref p)) (hp : H p = some (.lst xs)) (h : EvLP tb σ H PL) (hz : ∀ ys H1, PL ys H1 → xs.length + ys.length ≤ 100000) (mono : ∀ ys H1 H2, Ex H1 H2 → PL ys H1 → PL ys H2) : EvLP (tOp rCat ta tb) σ H (fun zs H2 => ∃ ys, zs = xs ++ ys ∧ PL ys H2) := fun H1 e Q q =>
  ha H1 e _ fun H2 e2 => h H2 (e.trans e2) _ fun r ys H3 hr e3 g3 pl => ⟨p, r, xs, ys, rfl, rfl, ((e.trans e2).trans e3) _ _ hp, g3, sz_of (hz ys H3 pl), fun l hl => q l _ _ (fresh_back (e2.trans e3) hl) ((e2.trans e3).trans (Ex.new hl)) upd_same ⟨ys, rfl, mono _ _ _ (Ex.new hl) pl⟩⟩
theorem s_asgLP {i : Nat} (h : EvLP te σ H PL) (k : ∀ p xs H1, H p = none → Ex H H1 → H1 p = some (.lst xs) → PL xs H1 → D.nx (σ.set i (some (.ref p))) H1) : tAsg te (gName i) D σ H := h H (Ex.refl H) _ fun p xs H1 hp e g pl => k p xs H1 hp e g pl
theorem q_asgLP {i : Nat} (h : EvLP te σ H PL) (k : ∀ p xs H1, H p = none → Ex H H1 → H1 p = some (.lst xs) → PL xs H1 → tz D (σ.set i (some (.ref p))) H1) : tSeq (tAsg te (gName i)) tz D σ H := s_asgLP (D := { D with nx := tz D }) h k
/-- for x, y, z in a list -/
theorem q_for3 {a : Addr} {xs : List V} {i j l : Nat} (h : Ev tl σ H (.ref a)) (hx : SqL K H a xs) (Pv : Nat → L2.St → Hp → Prop) (h0 : ∀ H1, Ex H H1 → Pv 0 σ H1) (hl : ∀ n σ' H', n ≤ xs.length → Pv n σ' H' → SqL K H' a xs)
    (hs : ∀ n v σ' H', xs[n]? = some v → Pv n σ' H' → ∃ t x y z, v = .ref t ∧ SqT K H' t [x, y, z] ∧ tu { D with nx := Pv (n + 1), ct := Pv (n + 1), bk := tz D } (((σ'.set i (some x)).set j (some y)).set l (some z)) H') (hd : ∀ σ' H', Pv xs.length σ' H' → tz D σ' H') :
    tSeq (tFor (iList K tl) (gTup K 3 (gCons (gName i) (gCons (gName j) (gCons (gName l) gNil)))) tu) tz D σ H :=
  h H (Ex.refl H) _ fun H1 e => ⟨a, rfl, ⟨xs, ex_l e hx⟩, for_list (D := { D with nx := tz D }) Pv (h0 H1 e) hl (fun n v σ' H' hv p => by
    obtain ⟨t, x, y, z, rfl, ht, q⟩ := hs n v σ' H' hv p
    exact ⟨t, _, rfl, ht, rfl, _, _, rfl, _, _, rfl, _, _, rfl, rfl, q⟩) hd⟩
theorem s_callS {sp : Sp} {E : L2.St → XK} {vs : List V} (ha : EvA t σ H vs) (k : ∀ H1, Ex H H1 → sp vs H1 (fun _ H2 => D.nx σ H2) (E σ)) : tDrop (tCallS sp E t) D σ H := ha H (Ex.refl H) _ fun H1 e1 => k H1 e1
end
end Bk
namespace Bk
open PySem PySem.Spec PyProof.Rows L2 Evl
/-! ### a tuple that the program holds -/
def FrT (K : PySem.W.Frag) (a : Addr) (xs : List V) : Prop := ∃ (o : Obj) (its : Array Value) (n : Nat), K.lookup a = some o ∧ o.cls = .type "tuple" ∧ o.data = .seq its n ∧ its.size ≤ sizeLine ∧ Vals xs its.toList
theorem FrT.sq {K : PySem.W.Frag} {a : Addr} {xs : List V} (h : FrT K a xs) {H : Hp} : SqT K H a xs := .inr h
theorem frt3 {K : PySem.W.Frag} {a : Addr} {od : Option Addr} {n : Nat} {sl : Array (Option Value)} {u1 u2 u3 : Value} {x1 x2 x3 : V} (h : K.lookup a = some ⟨.type "tuple", od, .seq #[u1, u2, u3] n, sl⟩) (r1 : RelV x1 u1) (r2 : RelV x2 u2) (r3 : RelV x3 u3) : FrT K a [x1, x2, x3] :=
  ⟨_, _, _, h, rfl, rfl, by
    rw [sizeLine_eq]
    show 3 ≤ _
    decide, .cons r1 (.cons r2 (.cons r3 .nil))⟩
theorem cr_anyK {X : Cx} {K : PySem.W.Frag} (h : X.K = K) (hc : X.calm = true) : CallR X (.builtin "any") (rAny K) := by
  subst h
  exact cr_any hc
theorem kb_str_str : kitB "str" "str" = some true := by decide +kernel
section
variable {K : PySem.W.Frag} {σ : L2.St} {H : Hp} {ta te tl : TE} {D : Ends} {tz : TS}
theorem ev_anyN {bs : List Bool} (ha : EvL ta σ H (bs.map V.bl)) : Ev (tCB (rAny K) (tCons ta tNil)) σ H (.bl (bs.any id)) := fun H1 e Q q =>
  ha H1 e _ fun p H2 hp2 e2 h2 => ⟨p, bs, rfl, sq_of h2, q H2 e2⟩
/-- x, y, z = a tuple -/
theorem q_tup3 {i j l : Nat} {t : Addr} {x y z : V} (h : Ev te σ H (.ref t)) (ht : SqT K H t [x, y, z]) (k : ∀ H1, Ex H H1 → tz D (((σ.set i (some x)).set j (some y)).set l (some z)) H1) : tSeq (tAsg te (gTup K 3 (gCons (gName i) (gCons (gName j) (gCons (gName l) gNil))))) tz D σ H :=
  h H (Ex.refl H) _ fun H1 e1 => ⟨t, _, rfl, ex_t e1 ht, rfl, _, _, rfl, _, _, rfl, _, _, rfl, rfl, k H1 e1⟩
/-- a comprehension over a tuple of triples -/
theorem el_lcT3 {a : Addr} {xs : List V} {i j l : Nat} {vs : List Nat} (v : Nat → V) (its : List (V × V × V)) (h : Ev tl σ H (.ref a)) (hx : SqT K H a xs) (hz : xs.length ≤ 40000) (h3 : ∀ (n : Nat) x, xs[n]? = some x → ∃ t p, x = .ref t ∧ its[n]? = some p ∧ SqT K H t [p.1, p.2.1, p.2.2])
    (hw : ∀ x y z, wipe ((((wipe σ vs).set i (some x)).set j (some y)).set l (some z)) vs = wipe σ vs) (he : ∀ (n : Nat) p H1, Ex H H1 → its[n]? = some p → Ev te ((((wipe σ vs).set i (some p.1)).set j (some p.2.1)).set l (some p.2.2)) H1 (v n)) :
    EvL (tLc (iTup K tl) (gTup K 3 (gCons (gName i) (gCons (gName j) (gCons (gName l) gNil)))) tYes te vs) σ H (given xs.length (fun _ => true) v) := fun H0 e Q q => h H0 e _ fun H1 e1 => ⟨a, rfl, ⟨xs, ex_t (e.trans e1) hx⟩, fun Dl hD =>
  lc_tup (xs := xs) (Cw H1 (fun _ => true) v Dl) ⟨hD, Ex.new hD, upd_same⟩ (fun i H' _ p => ex_t ((e.trans e1).trans p.2.1) hx) (fun n x H' hi p => by
    have hl := (List.getElem?_eq_some_iff.mp hi).1
    obtain ⟨t, w, rfl, hp, ht⟩ := h3 n x hi
    exact ⟨t, _, rfl, ex_t ((e.trans e1).trans p.2.1) ht, rfl, _, _, rfl, _, _, rfl, _, _, rfl, rfl, hw _ _ _, cw_turn p (by omega) (fun H3 _ Q q => q H3 (Ex.refl H3)) fun _ => he n w H1 (e.trans e1) hp⟩)
    (fun H' p => q Dl H' (fresh_back e1 p.1) (e1.trans p.2.1) p.2.2)⟩
end
end Bk
namespace Bk
open PySem PySem.Spec PyProof.Rows L2 Evl SX
/-! ### texts: rules and readings -/
def rJoin (K : PySem.W.Frag) : V → List V → Hp → VK → Prop := fun x xs H Q => ∃ a p, ∃ ys : List Str, x = .str a ∧ xs = [.ref p] ∧ (SqL K H p (ys.map V.str) ∨ SqT K H p (ys.map V.str)) ∧ (ys.map (·.length)).sum + ys.length * a.length ≤ 16777216 ∧ Q (.str (Txt.join a ys)) H
def rSplit : V → List V → Hp → VK → Prop := fun x xs H Q => ∃ a b, x = .str a ∧ xs = [.str b] ∧ (b.length == 0) = false ∧ a.length + 2 ≤ sizeLine ∧ rNewStrs (Txt.split a b) H Q
def rT0 (g : Str → V) : V → List V → Hp → VK → Prop := fun x xs H Q => ∃ a, x = .str a ∧ xs = [] ∧ True ∧ Q (g a) H
def rT1 (g : Str → Str → V) : V → List V → Hp → VK → Prop := fun x xs H Q => ∃ a b, x = .str a ∧ xs = [.str b] ∧ Q (g a b) H
section
variable {X : Cx}
theorem mt_joinK {K : PySem.W.Frag} (h : X.K = K) : MtR X "str.join" (rJoin K) := by
  subst h
  exact mt_join
theorem mt_splitR : MtR X "str.split" rSplit := mt_split
theorem mt_isdigit0 : MtR X "str.isdigit" (rT0 fun a => .bl (Txt.isdigit a)) := mt_isdigit
theorem mt_isascii0 : MtR X "str.isascii" (rT0 fun a => .bl (Txt.isascii a)) := mt_isascii
theorem mt_startswith1 : MtR X "str.startswith" (rT1 fun a b => .bl (Txt.startswith a b)) := mt_startswith
theorem mt_endswith1 : MtR X "str.endswith" (rT1 fun a b => .bl (Txt.endswith a b)) := mt_endswith
end
section
variable {K : PySem.W.Frag} {σ : L2.St} {H : Hp} {ta tb te : TE} {a b : Str}
theorem ev_t0 {g : Str → V} (h : Ev ta σ H (.str a)) : Ev (tM0 (rT0 g) ta) σ H (g a) := fun H1 e Q q => h H1 e _ fun H2 e2 => ⟨⟨a, rfl⟩, a, rfl, rfl, trivial, q H2 e2⟩
theorem ev_t1 {g : Str → Str → V} (h : Ev ta σ H (.str a)) (h' : Ev tb σ H (.str b)) : Ev (tM1 (rT1 g) ta tb) σ H (g a b) := fun H1 e Q q => h H1 e _ fun H2 e2 => ⟨⟨a, rfl⟩, h' H2 (e.trans e2) _ fun H3 e3 => ⟨a, b, rfl, rfl, q H3 (e2.trans e3)⟩⟩
theorem ev_joinN {ys : List Str} (h : Ev ta σ H (.str a)) (h' : EvL tb σ H (ys.map V.str)) (hz : (ys.map (·.length)).sum + ys.length * a.length ≤ 16777216) : Ev (tM1 (rJoin K) ta tb) σ H (.str (Txt.join a ys)) := fun H1 e Q q =>
  h H1 e _ fun H2 e2 => ⟨⟨a, rfl⟩, h' H2 (e.trans e2) _ fun p H3 _ e3 g => ⟨a, p, ys, rfl, rfl, .inl (sq_of g), hz, q H3 (e2.trans e3)⟩⟩
theorem ev_join {ys : List Str} {p : Addr} (h : Ev ta σ H (.str a)) (h' : Ev tb σ H (.ref p)) (g : SqL K H p (ys.map V.str)) (hz : (ys.map (·.length)).sum + ys.length * a.length ≤ 16777216) : Ev (tM1 (rJoin K) ta tb) σ H (.str (Txt.join a ys)) := fun H1 e Q q =>
  h H1 e _ fun H2 e2 => ⟨⟨a, rfl⟩, h' H2 (e.trans e2) _ fun H3 e3 => ⟨a, p, ys, rfl, rfl, .inl (ex_l ((e.trans e2).trans e3) g), hz, q H3 (e2.trans e3)⟩⟩
theorem el_split (h : Ev ta σ H (.str a)) (h' : Ev tb σ H (.str b)) (hb : (b.length == 0) = false) (hz : a.length + 2 ≤ sizeLine) : EvL (tM1 rSplit ta tb) σ H ((Txt.split a b).map V.str) := fun H1 e Q q =>
  h H1 e _ fun H2 e2 => ⟨⟨a, rfl⟩, h' H2 (e.trans e2) _ fun H3 e3 => ⟨a, b, rfl, rfl, hb, hz, fun p hp => q p _ (fresh_back (e2.trans e3) hp) ((e2.trans e3).trans (Ex.new hp)) upd_same⟩⟩
theorem ev_bits {i : Int} (h : Ev ta σ H (.int i)) : Ev (tBits ta) σ H (.int (Builtin.Int.intBits i : Nat)) := fun H1 e Q q => h H1 e _ fun H2 e2 => ⟨i, rfl, q H2 e2⟩
theorem ev_slS {tl th : TO} {z : Str} {lo hi : Option Int} (h : Ev te σ H (.str z)) (h1 : EvO tl σ H lo) (h2 : EvO th σ H hi) (hz : z.length ≤ sizeLine) : Ev (tSl L2.rSlS te tl th) σ H (.str (cutS z lo hi)) := fun H1 e Q q =>
  h H1 e _ fun H2 e2 => h1 H2 (e.trans e2) _ fun H3 e3 => h2 H3 ((e.trans e2).trans e3) _ fun H4 e4 => ⟨z, rfl, hz, q H4 ((e2.trans e3).trans e4)⟩
theorem ev_intS {n : Int} (h : Ev ta σ H (.str a)) (hn : PySem.intText? a = some n) (hl : a.length ≤ 640) : Ev (tCB (fun xs H Q => ∃ a n, xs = [V.str a] ∧ PySem.intText? a = some n ∧ a.length ≤ 640 ∧ Q (.int n) H) (tCons ta tNil)) σ H (.int n) := fun H1 e Q q =>
  h H1 e _ fun H2 e2 => ⟨a, n, rfl, hn, hl, q H2 e2⟩
theorem ev_lenS (h : Ev ta σ H (.str a)) (hz : a.length ≤ sizeLine) : Ev (tCB (fun xs H Q => ∃ z : Str, xs = [V.str z] ∧ z.length ≤ sizeLine ∧ Q (.int z.length) H) (tCons ta tNil)) σ H (.int (a.length : Int)) := fun H1 e Q q => h H1 e _ fun H2 e2 => ⟨a, rfl, hz, q H2 e2⟩
variable {D : Ends} {tu tz : TS}
theorem q_forNEn {xs : List V} {tl : TE} {i j : Nat} (h : EvL tl σ H xs) (Pv : Addr → Nat → L2.St → Hp → Prop) (h0 : ∀ p H1, H p = none → Ex H H1 → H1 p = some (.lst xs) → Pv p 0 σ H1) (hl : ∀ p n σ' H', n ≤ xs.length → Pv p n σ' H' → SqL K H' p xs)
    (hs : ∀ p n x σ' H', xs[n]? = some x → Pv p n σ' H' → ∀ H1, Ex H' H1 → tu { D with nx := Pv p (n + 1), ct := Pv p (n + 1), bk := tz D } ((σ'.set i (some (.int (n : Nat)))).set j (some x)) H1) (hd : ∀ p σ' H', Pv p xs.length σ' H' → tz D σ' H') :
    tSeq (tFor (iEnum K (tCons tl tNil)) (g2 K i j) tu) tz D σ H :=
  h H (Ex.refl H) _ fun p H1 hp e h1 => ⟨p, xs, rfl, sq_of h1, for_Ite (D := { D with nx := tz D }) (Pv p) (h0 p H1 hp e h1) (hl p) (hs p) (hd p)⟩
end
section
variable {σ : L2.St} {H : Hp} {D : Ends} {tu tz : TS}
theorem q_forR3G {ta : TA} {i : Nat} {lo j c : Int} (h : EvA ta σ H [.int lo, .int j, .int c]) (l0 : 0 ≤ lo) (l1 : lo ≤ 100000) (h0 : 0 ≤ j) (h1 : j ≤ 100000) (c0 : 0 < c) (c1 : c ≤ 100000) (Pv : Nat → L2.St → Hp → Prop) (hp0 : ∀ H1, Ex H H1 → Pv 0 σ H1)
    (hs : ∀ (k : Nat) σ' H', lo + (k : Int) * c < j → Pv k σ' H' → tu { D with nx := Pv (k + 1), ct := Pv (k + 1), bk := tz D } (σ'.set i (some (.int (lo + (k : Int) * c)))) H') (hd : ∀ (k : Nat) σ' H', j ≤ lo + (k : Int) * c → Pv k σ' H' → tz D σ' H') : tSeq (tFor (iRng3 ta) (gName i) tu) tz D σ H :=
  s_forR3G (D := { D with nx := tz D }) h l0 l1 h0 h1 c0 c1 Pv hp0 hs hd
end
/-! ### texts: mathematics -/
theorem asc_S (l : List Nat) : Txt.isascii (S l) = l.all fun c => decide (c < 128) := by
  show (S l).cps.all _ = _
  rw [← Array.all_toList]
theorem dig_one : ∀ c : Fin 128, Unicode.isDigit c.val = (decide (48 ≤ c.val) && decide (c.val ≤ 57)) := by decide +kernel
def dg (c : Nat) : Bool := decide (48 ≤ c) && decide (c ≤ 57)
theorem dig_S {l : List Nat} (h : (l.all fun c => decide (c < 128)) = true) : Txt.isdigit (S l) = (decide (0 < l.length) && l.all dg) := by
  have e : Txt.isdigit (S l) = (decide (0 < l.length) && l.all Unicode.isDigit) := by
    show (decide ((S l).length > 0) && (S l).cps.all Unicode.isDigit) = _
    rw [S_len, ← Array.all_toList]
  rw [e]
  congr 1
  induction l with
  | nil => rfl
  | cons c r ih =>
    rw [List.all_cons, Bool.and_eq_true] at h
    rw [List.all_cons, List.all_cons, dig_one ⟨c, of_decide_eq_true h.1⟩]
    show (dg c && _) = _
    congr 1
    have e2 : Txt.isdigit (S r) = (decide (0 < r.length) && r.all Unicode.isDigit) := by
      show (decide ((S r).length > 0) && (S r).cps.all Unicode.isDigit) = _
      rw [S_len, ← Array.all_toList]
    exact ih h.2 e2
theorem dg_asc {l : List Nat} (h : l.all dg = true) : (l.all fun c => decide (c < 128)) = true := by
  rw [List.all_eq_true] at h ⊢
  intro c hc
  have := h c hc
  unfold dg at this
  simp only [Bool.and_eq_true, decide_eq_true_eq] at this
  exact decide_eq_true (by omega)
theorem starts_S (l m : List Nat) : Txt.startswith (S l) (S m) = (l.take m.length == m) := by
  unfold Txt.startswith
  rw [PySem.StrLaws.subAt_eq, S_len, S_len]
  show (decide (0 + m.length ≤ l.length) && ((l.drop 0).take m.length == m)) = _
  rw [List.drop_zero, Nat.zero_add]
  by_cases h : m.length ≤ l.length
  · rw [decide_eq_true h, Bool.true_and]
  · rw [decide_eq_false h, Bool.false_and]
    cases e : (l.take m.length == m) with
    | false => rfl
    | true =>
      have e1 := congrArg List.length (eq_of_beq e)
      rw [List.length_take] at e1
      omega
/-- the number that stands in a text from 0 on -/
def natT (l : List Nat) : Option Nat := if l.all dg = true ∧ l ≠ [] ∧ (l.take 1 = [48] → l = [48]) then some (NumText.digitsVal l) else none
def wholeT (l : List Nat) : Option Int := if l.take 1 = [45] then (match natT (l.drop 1) with | some n => if n = 0 then none else some (-(n : Int)) | none => none) else (match natT l with | some n => some (n : Int) | none => none)
def numT (n : Int) : List Nat := if n < 0 then 45 :: TL.numL n.natAbs else TL.numL n.natAbs
theorem dg_num (n : Nat) : (TL.numL n).all dg = true := by
  rw [List.all_eq_true]
  intro c hc
  have := TL.numL_digits n c hc
  unfold dg
  simp only [Bool.and_eq_true, decide_eq_true_eq]
  exact this
theorem numL_head (n : Nat) (h : n ≠ 0) : ∃ c r, TL.numL n = c :: r ∧ 49 ≤ c := by
  induction n using Nat.strongRecOn with
  | _ n ih =>
    by_cases h1 : n < 10
    · rw [TL.numL_lt h1]
      exact ⟨48 + n, [], rfl, by omega⟩
    · rw [TL.numL_step (by omega)]
      obtain ⟨c, r, e, k⟩ := ih (n / 10) (by omega) (by omega)
      rw [e]
      exact ⟨c, r ++ [48 + n % 10], rfl, k⟩
theorem natT_num (n : Nat) : natT (TL.numL n) = some n := by
  have key : (TL.numL n).take 1 = [48] → TL.numL n = [48] := fun h => by
    by_cases h0 : n = 0
    · subst h0
      rw [TL.numL_lt (by decide)]
    · obtain ⟨c, r, e, k⟩ := numL_head n h0
      rw [e] at h
      injection h with h1
      omega
  unfold natT
  rw [if_pos ⟨dg_num n, TL.numL_ne n, key⟩, TL.numL_val]
theorem wholeT_num (n : Int) : wholeT (numT n) = some n := by
  unfold wholeT numT
  by_cases h : n < 0
  · rw [if_pos h, if_pos (show (45 :: TL.numL n.natAbs).take 1 = [45] from rfl)]
    show (match natT (TL.numL n.natAbs) with | some n => if n = 0 then none else some (-(n : Int)) | none => none) = some n
    rw [natT_num]
    show (if n.natAbs = 0 then none else some (-(n.natAbs : Int))) = some n
    rw [if_neg (by omega)]
    congr 1
    omega
  · rw [if_neg h, if_neg, natT_num]
    · show some ((n.natAbs : Nat) : Int) = some n
      congr 1
      omega
    · intro z
      cases e : TL.numL n.natAbs with
      | nil => exact TL.numL_ne _ e
      | cons c r =>
        rw [e] at z
        injection z with z1
        have := TL.numL_digits n.natAbs c (by rw [e]; exact List.mem_cons_self ..)
        omega
theorem str_num (n : Int) : (Str.ofString (toString n)) = S (numT n) := by
  refine TL.ext_tl ?_
  unfold numT
  by_cases h : n < 0
  · obtain ⟨m, rfl⟩ : ∃ m : Nat, n = Int.negSucc m := ⟨n.natAbs - 1, by omega⟩
    rw [if_pos h]
    show TL.tl (Str.ofString ("-" ++ toString (m + 1))) = 45 :: TL.numL (m + 1)
    rw [TL.tl_ofString, String.toList_append, List.map_append, ← TL.tl_num (m + 1), TL.tl_ofString]
    rfl
  · obtain ⟨m, rfl⟩ : ∃ m : Nat, n = m := ⟨n.toNat, by omega⟩
    rw [if_neg h]
    exact TL.tl_num m
theorem natT_val {l : List Nat} {n : Nat} (h : natT l = some n) (hl : l.length ≤ 4300) : PySem.intText? (S l) = some (n : Int) := by
  unfold natT at h
  split at h
  · rename_i c
    cases h
    refine int_S ?_ c.2.1 hl
    exact c.1
  · cases h
def optI : Option Int → V
  | none => .non
  | some n => .int n
def optN : Option Nat → V
  | none => .non
  | some n => .int (n : Int)
theorem cut_from (l : List Nat) (k : Nat) : cutS (S l) (some (k : Int)) none = S (l.drop k) := by
  unfold cutS
  rw [S_len, HT.sIx_nat, HT.sIx_none]
  refine TL.ext_tl ?_
  show (l.drop (min k l.length)).take (l.length - min k l.length) = l.drop k
  by_cases h : k ≤ l.length
  · rw [Nat.min_eq_left h]
    exact List.take_of_length_le (by rw [List.length_drop]; omega)
  · rw [Nat.min_eq_right (by omega), List.drop_length, List.take_nil, List.drop_eq_nil_of_le (by omega)]
theorem cut_both (l : List Nat) (j k : Nat) : cutS (S l) (some (j : Int)) (some (k : Int)) = S ((l.drop j).take (k - j)) := by
  unfold cutS
  rw [S_len, HT.sIx_nat, HT.sIx_nat]
  refine TL.ext_tl ?_
  show (l.drop (min j l.length)).take (min k l.length - min j l.length) = (l.drop j).take (k - j)
  by_cases h : j ≤ l.length
  · rw [Nat.min_eq_left h]
    by_cases h2 : k ≤ l.length
    · rw [Nat.min_eq_left h2]
    · rw [Nat.min_eq_right (show l.length ≤ k by omega), List.take_of_length_le (by rw [List.length_drop]; omega), List.take_of_length_le (by rw [List.length_drop]; omega)]
  · rw [Nat.min_eq_right (show l.length ≤ j by omega), List.drop_length, List.take_nil, List.drop_eq_nil_of_le (by omega), List.take_nil]
theorem numT_len {n : Int} {k : Nat} (hk : 0 < k) (h0 : -(10 ^ k) < n) (h1 : n < 10 ^ k) : (numT n).length ≤ k + 1 := by
  have hn : n.natAbs < 10 ^ k := by
    have e : ((10 : Int) ^ k) = ((10 ^ k : Nat) : Int) := by simp
    rw [e] at h0 h1
    omega
  have := TL.numL_len hk hn
  unfold numT
  split
  · rw [List.length_cons]
    omega
  · omega
theorem slen (l : List Nat) (h : l.length ≤ 100000) : (S l).length ≤ sizeLine := by
  rw [S_len]
  exact sz_of h
/-- the texts of numbers, with a comma and a blank between -/
def rowT (ns : List Int) : List Nat := TL.joinL [44, 32] (ns.map numT)
theorem numT_free (n : Int) : ∀ c ∈ numT n, c = 45 ∨ (48 ≤ c ∧ c ≤ 57) := by
  intro c hc
  unfold numT at hc
  split at hc
  · rcases List.mem_cons.mp hc with h | h
    · exact .inl h
    · exact .inr (TL.numL_digits _ c h)
  · exact .inr (TL.numL_digits _ c hc)
theorem joinL_len (sep : List Nat) : ∀ ps : List (List Nat), (TL.joinL sep ps).length ≤ (ps.map (·.length)).sum + ps.length * sep.length
  | [] => by simp [TL.joinL]
  | [p] => by simp [TL.joinL]
  | p :: q :: r => by
    show (p ++ (sep ++ TL.joinL sep (q :: r))).length ≤ _
    have ih := joinL_len sep (q :: r)
    simp only [List.length_append, List.map_cons, List.sum_cons, List.length_cons, Nat.succ_mul] at ih ⊢
    omega
theorem split_row {ns : List Int} (h : ns ≠ []) : Txt.split (S (rowT ns)) (S [44, 32]) = ns.map fun n => S (numT n) := by
  rw [split_S (by decide) (by decide)]
  unfold rowT
  rw [spl_join (by simp [h])]
  · rw [List.map_map]
    rfl
  · intro p hp
    obtain ⟨n, _, rfl⟩ := List.mem_map.mp hp
    intro hc
    have := numT_free n _ hc
    omega
theorem join_row (ns : List Int) : Txt.join (S [44, 32]) (ns.map fun n => S (numT n)) = S (rowT ns) := by
  have := join_S [44, 32] (ns.map numT)
  rw [List.map_map] at this
  exact this
theorem numT_inj {m n : Int} (h : numT m = numT n) : m = n := by
  have := wholeT_num m
  rw [h, wholeT_num] at this
  cases this
  rfl
theorem log_num {n : Int} (h : n.natAbs < 2 ^ 1900) : n.natAbs.log2 < 1920 := Nat.lt_of_lt_of_le (PySem.Flt.log2_lt_of (k := 1900) (by decide) h) (by decide)
theorem bits_num {n : Int} (h : n.natAbs < 2 ^ 1900) : (((PySem.Builtin.Int.intBits n : Nat) : Int) ≤ 14000) := by
  have := PyProof.Rows.intBits_le h
  omega
theorem num_neg {n : Int} (h : n < 0) : ("-" : Str) ++ S (numT (-n)) = S (numT n) := by
  have e : numT n = 45 :: numT (-n) := by
    unfold numT
    rw [if_pos h, if_neg (by omega), Int.natAbs_neg]
  rw [e]
  exact S_cat [45] (numT (-n))
theorem numT_lt {n : Int} (h : n.natAbs < 2 ^ 1900) : (numT n).length ≤ 1901 := by
  have := str_len (i := n) (Nat.lt_of_lt_of_le (PySem.Flt.log2_lt_of (k := 1900) (by decide) h) (by decide))
  have e : (toString n : Str).length = (numT n).length := by
    show (Str.ofString (toString n)).length = _
    rw [str_num, S_len]
  omega
end Bk
namespace Bk
open PySem PySem.Spec PyProof.Rows L2 Evl SX
/-! ### f'..': readings -/
def EvJ (ts : List TE) (σ : L2.St) (H : Hp) (acc out : List Nat) : Prop := ∀ H1, Ex H H1 → ∀ Q : Str → Hp → Prop, (∀ H2, Ex H1 H2 → Q (S out) H2) → tJs ts (S acc) σ H1 Q
section
variable {K : PySem.W.Frag} {σ : L2.St} {H : Hp} {t te ta tb : TE} {ts : List TE} {a b out : List Nat}
theorem ej_nil : EvJ [] σ H a a := fun H1 e Q q => q H1 (Ex.refl H1)
theorem ej_cons (h : Ev t σ H (.str (S b))) (hz : a.length + b.length ≤ 100000) (r : EvJ ts σ H (a ++ b) out) : EvJ (t :: ts) σ H a out := fun H1 e Q q =>
  h H1 e _ fun H2 e2 => ⟨S b, rfl, by rw [S_cat, S_len, List.length_append]; exact sz_of hz, by
    rw [S_cat]
    exact r H2 (e.trans e2) Q fun H3 e3 => q H3 (e2.trans e3)⟩
theorem ev_js (h : EvJ ts σ H [] out) : Ev (fun σ H Q => tJs ts Str.empty σ H fun out H1 => Q (.str out) H1) σ H (.str (S out)) := fun H1 e Q q => h H1 e _ fun H2 e2 => q H2 e2
theorem ev_fmt {y : List Nat} (h : Ev te σ H (.str (S y))) (hz : y.length ≤ 100000) : Ev (tFmt te) σ H (.str (S y)) := fun H1 e Q q => h H1 e _ fun H2 e2 => .inl ⟨S y, rfl, slen y hz, q H2 e2⟩
theorem ev_addT (h : Ev ta σ H (.str (S a))) (h' : Ev tb σ H (.str (S b))) (hz : a.length + b.length ≤ 100000) : Ev (tOp (fun x y H Q => ∃ i j, x = V.str i ∧ y = V.str j ∧ i.length + j.length ≤ sizeLine ∧ Q (.str (i ++ j)) H) ta tb) σ H (.str (S (a ++ b))) :=
  ev_is (ev_op h h' (rv_addS (by rw [S_len, S_len]; exact hz))) (congrArg V.str (S_cat a b))
end
/-! ### lists of texts compared -/
def vs (ys : List (List Nat)) : List V := ys.map fun l => .str (S l)
def ds (ys : List (List Nat)) : List PyData := ys.map fun l => .str (S l)
def strsOk (ys : List (List Nat)) : Prop := ∀ l ∈ ys, (l.all fun c => decide (c < 1114112)) = true
theorem strsOk_of {ys : List (List Nat)} (h : (ys.all fun l => l.all fun c => decide (c < 1114112)) = true) : strsOk ys := fun l hl => List.all_eq_true.mp h l hl
theorem ok_S {l : List Nat} (h : (l.all fun c => decide (c < 1114112)) = true) : PyData.strOk (S l) = true := by
  show (S l).cps.all _ = true
  rw [← Array.all_toList]
  exact h
theorem dpAll_strs (K : PySem.W.Frag) (H : Hp) : ∀ ys : List (List Nat), DpAll K H (vs ys) (ds ys)
  | [] => .nil
  | y :: ys => .cons (.str _) (dpAll_strs K H ys)
theorem canLay_strs : ∀ {ys : List (List Nat)}, strsOk ys → PyData.canLayAll0 (ds ys) = true
  | [], _ => rfl
  | y :: ys, h => by
    show PyData.canLayAll0 (.str (S y) :: ds ys) = true
    rw [PyData.canLayAll0, PyData.canLay0, ok_S (h y (List.mem_cons_self ..)), canLay_strs fun l m => h l (List.mem_cons_of_mem _ m)]
    rfl
theorem depth_strs : ∀ ys : List (List Nat), PyData.depthAll (ds ys) = 0
  | [] => rfl
  | y :: ys => by
    show PyData.depthAll (.str (S y) :: ds ys) = 0
    rw [PyData.depthAll, PyData.depth, depth_strs ys]
    rfl
theorem shaped_strs {ys : List (List Nat)} (h : strsOk ys) : SeqAt.shaped (.list (ds ys)) = true := by
  unfold SeqAt.shaped
  rw [PyData.canLay0, PyData.depth, canLay_strs h, depth_strs]
  rfl
theorem eqvAll_strs : ∀ as bs : List (List Nat), PyData.eqvAll (ds as) (ds bs) = decide (as = bs)
  | [], [] => rfl
  | [], _ :: _ => rfl
  | _ :: _, [] => rfl
  | a :: as, b :: bs => by
    show PyData.eqvAll (.str (S a) :: ds as) (.str (S b) :: ds bs) = _
    rw [PyData.eqvAll, PyData.eqv, eqvAll_strs as bs, S_beq]
    by_cases h : a = b
    · by_cases h2 : as = bs
      · simp [h, h2]
      · simp [h, h2]
    · simp [h]
section
variable {K : PySem.W.Frag} {σ : L2.St} {H : Hp} {ta tb : TE} {as bs : List (List Nat)}
theorem ev_eqTT (ha : strsOk as) (hb : strsOk bs) (h1 : EvL ta σ H (vs as)) (h2 : EvL tb σ H (vs bs)) : Ev (tOp (rEqD K) ta tb) σ H (.bl (decide (as = bs))) := fun H1 e Q k =>
  h1 H1 e _ fun p H2 _ e2 g2 => h2 H2 (e.trans e2) _ fun q H3 _ e3 g3 => ⟨.list (ds as), .list (ds bs), .lst (sq_of (e3 _ _ g2)) (dpAll_strs K H3 as), .lst (sq_of g3) (dpAll_strs K H3 bs), shaped_strs ha, shaped_strs hb, by
    rw [PyData.eqv, eqvAll_strs]
    exact k H3 (e2.trans e3)⟩
theorem ev_eqPT {p : Addr} (ha : strsOk as) (hb : strsOk bs) (h1 : Ev ta σ H (.ref p)) (g : SqL K H p (vs as)) (h2 : EvL tb σ H (vs bs)) : Ev (tOp (rEqD K) ta tb) σ H (.bl (decide (as = bs))) := fun H1 e Q k =>
  h1 H1 e _ fun H2 e2 => h2 H2 (e.trans e2) _ fun q H3 _ e3 g3 => ⟨.list (ds as), .list (ds bs), .lst (ex_l ((e.trans e2).trans e3) g) (dpAll_strs K H3 as), .lst (sq_of g3) (dpAll_strs K H3 bs), shaped_strs ha, shaped_strs hb, by
    rw [PyData.eqv, eqvAll_strs]
    exact k H3 (e2.trans e3)⟩
end
theorem tup_lst {H : Hp} {r l : Addr} {us xs : List V} (h : H r = some (.tup us)) (g : H l = some (.lst xs)) : r ≠ l := fun z => by
  rw [z, g] at h
  cases h
theorem well_lst {H : Hp} {a : Addr} {n : Nat} (w : Well H a n) : ∃ xs, H a = some (.lst xs) := by
  obtain ⟨x, y, c, q1, q2⟩ := w
  exact ⟨_, q1⟩
/-! ### the texts of rules: split at ' + ' -/
theorem pre_plus {p q : List Nat} (h : 43 ∉ p) : ∀ i, i < p.length → TL.pre [32, 43, 32] ((p ++ ([32, 43, 32] ++ q)).drop i) = false := fun i hi => by
  have hlt : i < (p ++ ([32, 43, 32] ++ q)).length := by rw [List.length_append]; omega
  rw [List.drop_eq_getElem_cons hlt]
  have hlt2 : i + 1 < (p ++ ([32, 43, 32] ++ q)).length := by
    rw [List.length_append, List.length_append]
    show _ < _ + (3 + _)
    omega
  rw [List.drop_eq_getElem_cons hlt2]
  have n2 : (p ++ ([32, 43, 32] ++ q))[i + 1] ≠ 43 := by
    by_cases c : i + 1 < p.length
    · rw [List.getElem_append_left c]
      exact fun z => h (z ▸ List.getElem_mem c)
    · rw [List.getElem_append_right (by omega)]
      have e : i + 1 - p.length = 0 := by omega
      simp only [e]
      show (32 : Nat) ≠ 43
      decide
  generalize (p ++ ([32, 43, 32] ++ q))[i] = c1
  generalize (p ++ ([32, 43, 32] ++ q))[i + 1] = c2 at n2
  show ((c1 :: c2 :: _).take 3 == [32, 43, 32]) = false
  refine beq_eq_false_iff_ne.mpr fun z => ?_
  simp only [List.take_succ_cons, List.cons.injEq] at z
  exact n2 z.2.1
theorem pre_plus_last {p : List Nat} (h : 43 ∉ p) : ∀ i, i < p.length → TL.pre [32, 43, 32] (p.drop i) = false := fun i hi => by
  rw [List.drop_eq_getElem_cons hi]
  have hm : 43 ∉ p.drop (i + 1) := fun m => h (List.mem_of_mem_drop m)
  generalize p[i] = c1
  generalize p.drop (i + 1) = r at hm
  show ((c1 :: r).take 3 == [32, 43, 32]) = false
  refine beq_eq_false_iff_ne.mpr fun z => ?_
  cases r with
  | nil => simp at z
  | cons c2 r =>
    simp only [List.take_succ_cons, List.cons.injEq] at z
    exact hm (by rw [z.2.1]; exact List.mem_cons_self ..)
theorem spl_plus : ∀ {parts : List (List Nat)}, parts ≠ [] → (∀ p ∈ parts, 43 ∉ p) → TL.spl [32, 43, 32] 0 [] (TL.joinL [32, 43, 32] parts) = parts
  | [], h, _ => absurd rfl h
  | [p], _, hp => by
    show TL.spl [32, 43, 32] 0 [] p = [p]
    rw [TL.spl_last (pre_plus_last (hp p (List.mem_singleton.mpr rfl))), List.nil_append]
  | p :: q :: r, _, hp => by
    show TL.spl [32, 43, 32] 0 [] (p ++ ([32, 43, 32] ++ TL.joinL [32, 43, 32] (q :: r))) = p :: q :: r
    rw [TL.spl_part (by simp) (pre_plus (hp p (List.mem_cons_self ..))), List.nil_append, spl_plus (by simp) fun z hz => hp z (List.mem_cons_of_mem _ hz)]
def PI (lo hi : Int) : V → Prop := fun v => ∃ c : Int, v = .int c ∧ lo ≤ c ∧ c ≤ hi
theorem ew_i {σ : L2.St} {H : Hp} {te : TE} {a : Addr} {c lo hi : Int} (h : Ev te σ (hid a H) (.int c)) (h0 : lo ≤ c) (h1 : c ≤ hi) : EvW a 0 te σ H (PI lo hi) := ew_pure h ⟨c, rfl, h0, h1⟩
theorem ewx_nil {σ : L2.St} {H : Hp} {a : Addr} {P : V → Prop} : EvWA a 0 tNil σ H (fun vs => vs.length = 0 ∧ ∀ v ∈ vs, P v) := fun n H1 b w l Q q => q [] H1 (But.refl a H1) w ⟨rfl, fun _ h => nomatch h⟩
theorem ewx_cons {σ : L2.St} {H : Hp} {a : Addr} {P : V → Prop} {d1 d2 n : Nat} {te : TE} {tr : TA} (h : EvW a d1 te σ H P) (hr : EvWA a d2 tr σ H (fun vs => vs.length = n ∧ ∀ v ∈ vs, P v)) : EvWA a (d1 + d2) (tCons te tr) σ H (fun vs => vs.length = n + 1 ∧ ∀ v ∈ vs, P v) :=
  ewa_mono (ewa_cons h hr) fun vs ⟨x, xs, e, px, l, hx⟩ => by
    subst e
    refine ⟨by rw [List.length_cons, l], fun v hv => ?_⟩
    rcases List.mem_cons.mp hv with rfl | hv
    · exact px
    · exact hx v hv
theorem ew_pi {K : PySem.W.Frag} {σ : L2.St} {H : Hp} {a : Addr} {i : Nat} {E : XK} {te : TE} {m lo hi : Int} (hσ : σ[i]? = some (some (.ref a))) (h : Ev te σ (hid a H) (.int m)) (h0 : 0 < m) (h1 : m < 2 ^ 250) (l : 0 ≤ lo) (u : m ≤ hi + 1) (z : lo = 0) : EvW a 1 (tCall (sp_dr K) [] E (tCons (tVar i) (tCons te tNil))) σ H (PI lo hi) :=
  (ew_drawC hσ h h0 (lt8000 h1)).mono fun v ⟨r, e, r0, r1⟩ => ⟨r, e, by omega, by omega⟩
theorem ew_pisub {σ : L2.St} {H : Hp} {a : Addr} {ta tb : TE} {d : Nat} {lo hi lo' hi' k : Int} (h : EvW a d ta σ H (PI lo hi)) (h' : Ev tb σ (hid a H) (.int k)) (l : lo' ≤ lo - k) (u : hi - k ≤ hi') : EvW a (d + 0) (tOp (rI0 fun i j => .int (i - j)) ta tb) σ H (PI lo' hi') :=
  ew_op (P2 := fun v => v = .int k) h (ew_pure h' rfl) fun x y ⟨r, e, r0, r1⟩ e2 => ⟨.int (r - k), fun H => by subst e e2; exact rv_I0, _, rfl, by omega, by omega⟩
theorem ew_piadd {σ : L2.St} {H : Hp} {a : Addr} {ta tb : TE} {d : Nat} {lo hi lo' hi' k : Int} (h' : Ev ta σ (hid a H) (.int k)) (h : EvW a d tb σ H (PI lo hi)) (l : lo' ≤ k + lo) (u : k + hi ≤ hi') : EvW a (0 + d) (tOp (rI0 fun i j => .int (i + j)) ta tb) σ H (PI lo' hi') :=
  ew_op (P1 := fun v => v = .int k) (ew_pure h' rfl) h fun x y e2 ⟨r, e, r0, r1⟩ => ⟨.int (k + r), fun H => by subst e e2; exact rv_I0, _, rfl, by omega, by omega⟩
theorem given_map (ns : List Int) (f : Int → V) : given ns.length (fun _ => true) (fun i => f (ns.getD i 0)) = ns.map f := by
  rw [given_all]
  refine List.ext_getElem (by simp) fun i h1 h2 => ?_
  simp at h1
  simp [List.getD_eq_getElem?_getD, h1]
def RtOk (ns : List Int) : Prop := ns ≠ [] ∧ ns.length ≤ 4000 ∧ ∀ n ∈ ns, n.natAbs < 2 ^ 1900 ∧ (numT n).length ≤ 640
theorem RtOk.pos {ns : List Int} (h : RtOk ns) : 0 < ns.length := List.length_pos_iff.mpr h.1
theorem RtOk.sum {ns : List Int} (h : RtOk ns) : ((ns.map fun n => S (numT n)).map (·.length)).sum ≤ ns.length * 640 := by
  have e := PySem.StrLaws.sumLen_le (B := 640) (ns.map fun n => S (numT n)) fun y hy => by
    obtain ⟨n, hn, rfl⟩ := List.mem_map.mp hy
    rw [S_len]
    exact (h.2.2 n hn).2
  rw [List.length_map] at e
  exact e
theorem RtOk.fits {ns : List Int} (h : RtOk ns) : ((ns.map fun n => S (numT n)).map (·.length)).sum + (ns.map fun n => S (numT n)).length * (S [44, 32]).length ≤ 16777216 := by
  have e := h.sum
  have h1 := h.2.1
  rw [List.length_map, S_len]
  show _ + ns.length * 2 ≤ _
  omega
theorem RtOk.len {ns : List Int} (h : RtOk ns) : (rowT ns).length + 2 ≤ sizeLine := by
  have e := joinL_len [44, 32] (ns.map numT)
  have e2 := h.sum
  rw [List.map_map] at e2
  have e3 : ((ns.map numT).map (·.length)).sum = (ns.map ((·.length) ∘ fun n => S (numT n))).sum := by
    rw [List.map_map]
    congr 1
  rw [e3, List.length_map] at e
  have h1 := h.2.1
  have e4 : ([44, 32] : List Nat).length = 2 := rfl
  rw [e4] at e
  unfold rowT
  show _ ≤ 2 ^ 24
  omega
def NumOk (z : Int) : Prop := -(10 ^ 60) ≤ z ∧ z ≤ 10 ^ 60
theorem p59 : (10 : Int) ^ Int.toNat 59 = 100000000000000000000000000000000000000000000000000000000000 := by decide
theorem p60 : (10 : Int) ^ 60 = 1000000000000000000000000000000000000000000000000000000000000 := by decide
theorem p60' : (10 : Int) ^ Int.toNat 60 = 1000000000000000000000000000000000000000000000000000000000000 := by decide
theorem mul_lt9 {x y : Int} (hx0 : 0 ≤ x) (hx : x < 10 ^ Int.toNat 9) (hy0 : 0 ≤ y) (hy : y < 10 ^ Int.toNat 9) : 0 ≤ x * y ∧ x * y ≤ 1000000000000000000 := by
  have e : (10 : Int) ^ Int.toNat 9 = 1000000000 := by decide
  rw [e] at hx hy
  refine ⟨Int.mul_nonneg hx0 hy0, ?_⟩
  have := Int.mul_le_mul (show x ≤ 1000000000 by omega) (show y ≤ 1000000000 by omega) hy0 (by decide)
  omega
theorem num_ok {z : Int} (h : NumOk z) : z.natAbs < 2 ^ 1900 ∧ (numT z).length ≤ 640 := by
  unfold NumOk at h
  rw [p60] at h
  have e : (2 : Nat) ^ 240 = 1766847064778384329583297500742918515827483896875618958121606201292619776 := by decide
  have hz : z.natAbs < 2 ^ 240 := by
    rw [e]
    omega
  refine ⟨Nat.lt_of_lt_of_le hz (Nat.pow_le_pow_right (by decide) (by decide)), ?_⟩
  have e61 : (10 : Int) ^ 61 = 10000000000000000000000000000000000000000000000000000000000000 := by decide
  have h0 : -(10 ^ 61) < z := by
    rw [e61]
    omega
  have h1 : z < 10 ^ 61 := by
    rw [e61]
    omega
  have := numT_len (n := z) (k := 61) (by decide) h0 h1
  omega
theorem rt_ok {ns : List Int} (h0 : 0 < ns.length) (h1 : ns.length ≤ 300) (h : ∀ z ∈ ns, NumOk z) : RtOk ns := ⟨List.length_pos_iff.mp h0, by omega, fun n hn => num_ok (h n hn)⟩
theorem num_wide {ns : List Int} (h : ∀ z ∈ ns, NumOk z) : wide 1900 ns := fun n hn => by
  have := h n hn
  unfold NumOk at this
  rw [p60] at this
  have e : (2 : Nat) ^ 240 = 1766847064778384329583297500742918515827483896875618958121606201292619776 := by decide
  have hz : n.natAbs < 2 ^ 240 := by
    rw [e]
    omega
  exact Nat.lt_of_lt_of_le (PySem.Flt.log2_lt_of (k := 240) (by decide) hz) (by decide)
theorem cut_one {ns : List Int} {j : Nat} {x : Int} (h : ns[j]? = some x) : cutV (vi ns) (some (j : Int)) (some ((j : Int) + 1)) = vi [x] := by
  have hj := (List.getElem?_eq_some_iff.mp h).1
  have hx := (List.getElem?_eq_some_iff.mp h).2
  unfold cutV
  rw [show (j : Int) + 1 = ((j + 1 : Nat) : Int) from rfl, HT.sIx_nat, HT.sIx_nat, List.length_map, Nat.min_eq_left (by omega), Nat.min_eq_left (by omega), show j + 1 - j = 1 by omega, ← List.map_drop, ← List.map_take, List.drop_eq_getElem_cons hj, hx]
  rfl
theorem num_len {z : Int} (h : NumOk z) : (numT z).length ≤ 62 := by
  unfold NumOk at h
  rw [p60] at h
  have e61 : (10 : Int) ^ 61 = 10000000000000000000000000000000000000000000000000000000000000 := by decide
  have h0 : -(10 ^ 61) < z := by
    rw [e61]
    omega
  have h1 : z < 10 ^ 61 := by
    rw [e61]
    omega
  exact numT_len (n := z) (k := 61) (by decide) h0 h1
end Bk
namespace Bk
open PySem PySem.Spec PyProof.Rows L2 Evl SX
/-! ### an integer, or a value of another kind -/
def NV (H : Hp) (v : V) (o : Option Int) : Prop := match o with | some m => v = .int m | none => OddV H v
theorem NV.ex {H H' : Hp} {v : V} {o : Option Int} (h : NV H v o) (e : Ex H H') : NV H' v o := by
  cases o with
  | none => exact OddV.ex h e
  | some m => exact h
def inZ (o : Option Int) (lo hi : Int) : Bool := match o with | some m => decide (lo ≤ m) && decide (m ≤ hi) | none => false
theorem nv_opt {H : Hp} (o : Option Int) : NV H (optI o) o := by
  cases o with
  | none => exact .inl rfl
  | some m => rfl
/-! ### words of lists -/
def rInsert : V → List V → Hp → VK → Prop := fun x vs H Q => ∃ (l : Addr) (xs : List V) (i : Int) (y : V), x = .ref l ∧ vs = [.int i, y] ∧ H l = some (.lst xs) ∧ xs.length < sizeLine ∧ 0 ≤ i ∧ i < 2 ^ 63 ∧ Q .non (upd H l (.lst (xs.take i.toNat ++ [y] ++ xs.drop i.toNat)))
theorem mt_insertR {X : Cx} : MtR X "list.insert" rInsert := mt_insert
section
variable {K : PySem.W.Frag} {σ : L2.St} {H : Hp} {ta tb te : TE} {D : Ends} {tz : TS}
theorem s_insert {l : Addr} {xs : List V} {i : Nat} {y : V} (hl : H l = some (.lst xs)) (h : Ev ta σ H (.ref l)) (h1 : Ev tb σ H (.int (i : Int))) (h2 : Ev te σ H y) (hz : xs.length < 100000) (hi : i ≤ 100000) (k : ∀ H1, Ex H H1 → D.nx σ (upd H1 l (.lst (xs.take i ++ [y] ++ xs.drop i)))) : tDrop (tBM K "list" rInsert ta (tCons tb (tCons te tNil))) D σ H :=
  h H (Ex.refl H) _ fun H1 e1 => ⟨.inl ⟨rfl, xs, sq_of (e1 _ _ hl)⟩, h1 H1 e1 _ fun H2 e2 => h2 H2 (e1.trans e2) _ fun H3 e3 => ⟨l, xs, (i : Int), y, rfl, rfl, ((e1.trans e2).trans e3) _ _ hl, sz_lt hz, by omega, by omega, by rw [Int.toNat_natCast]; exact k H3 ((e1.trans e2).trans e3)⟩⟩
theorem s_popAt {l : Addr} {xs : List V} {i : Nat} (hl : H l = some (.lst xs)) (h : Ev ta σ H (.ref l)) (h1 : Ev tb σ H (.int (i : Int))) (hi : i < xs.length) (hz : xs.length ≤ 100000) (k : ∀ H1, Ex H H1 → D.nx σ (upd H1 l (.lst (xs.eraseIdx i)))) : tDrop (tBM K "list" rPopAt ta (tCons tb tNil)) D σ H :=
  h H (Ex.refl H) _ fun H1 e1 => ⟨.inl ⟨rfl, xs, sq_of (e1 _ _ hl)⟩, h1 H1 e1 _ fun H2 e2 => ⟨l, xs, (i : Int), i, xs[i], rfl, rfl, (e1.trans e2) _ _ hl, by omega, by omega, by
    obtain ⟨j, e, ej, _⟩ := atI_get (atI_nat (List.getElem?_eq_getElem hi))
    have e2 : seqIndex? (i : Int) xs.length = some i := by
      unfold seqIndex?
      simp only []
      rw [if_neg (show ¬ (i : Int) < 0 by omega), if_pos (by simp; omega), Int.toNat_natCast]
    exact e2, List.getElem?_eq_getElem hi, k H2 (e1.trans e2)⟩⟩
end
theorem cutV_both (xs : List V) (j k : Nat) : cutV xs (some (j : Int)) (some (k : Int)) = (xs.drop j).take (k - j) := by
  unfold cutV
  rw [HT.sIx_nat, HT.sIx_nat]
  by_cases h : j ≤ xs.length
  · rw [Nat.min_eq_left h]
    by_cases h2 : k ≤ xs.length
    · rw [Nat.min_eq_left h2]
    · rw [Nat.min_eq_right (show xs.length ≤ k by omega), List.take_of_length_le (by rw [List.length_drop]; omega), List.take_of_length_le (by rw [List.length_drop]; omega)]
  · rw [Nat.min_eq_right (show xs.length ≤ j by omega), List.drop_length, List.take_nil, List.drop_eq_nil_of_le (by omega), List.take_nil]
/-! ### split, of any text -/
def prts (sep l : List Nat) : List (List Nat) := TL.spl sep 0 [] l
theorem prts_S {sep l : List Nat} (h : sep ≠ []) (hk : (sep.all (· < 256)) = true) : Txt.split (S l) (S sep) = (prts sep l).map S := split_S h hk
theorem prts_join {sep l : List Nat} (h : sep ≠ []) (hk : (sep.all (· < 256)) = true) : TL.joinL sep (prts sep l) = l := by
  have e := PySem.StrLaws.join_split (S l) (S sep)
  rw [prts_S h hk] at e
  have e2 := congrArg TL.tl e
  rw [TL.tl_join, List.map_map] at e2
  have e3 : (prts sep l).map (TL.tl ∘ S) = prts sep l := by
    rw [show (TL.tl ∘ S) = id from rfl, List.map_id]
  rw [e3] at e2
  exact e2
theorem joinL_sub (sep : List Nat) : ∀ {ps : List (List Nat)} {p : List Nat}, p ∈ ps → ∀ c ∈ p, c ∈ TL.joinL sep ps
  | [], p, h, c, hc => by cases h
  | [q], p, h, c, hc => by
    rw [List.mem_singleton.mp h] at hc
    exact hc
  | q :: r :: s, p, h, c, hc => by
    show c ∈ q ++ (sep ++ TL.joinL sep (r :: s))
    rcases List.mem_cons.mp h with rfl | h
    · exact List.mem_append_left _ hc
    · exact List.mem_append_right _ (List.mem_append_right _ (joinL_sub sep h c hc))
theorem prts_mem {sep l p : List Nat} (h : sep ≠ []) (hk : (sep.all (· < 256)) = true) (hp : p ∈ prts sep l) {c : Nat} (hc : c ∈ p) : c ∈ l := by
  have := joinL_sub sep hp c hc
  rwa [prts_join h hk] at this
theorem joinL_part (sep : List Nat) : ∀ {ps : List (List Nat)} {p : List Nat}, p ∈ ps → p.length ≤ (TL.joinL sep ps).length
  | [], p, h => by cases h
  | [q], p, h => by
    rw [List.mem_singleton.mp h]
    exact Nat.le_refl _
  | q :: r :: s, p, h => by
    show p.length ≤ (q ++ (sep ++ TL.joinL sep (r :: s))).length
    rw [List.length_append, List.length_append]
    rcases List.mem_cons.mp h with rfl | h
    · omega
    · have := joinL_part sep h
      omega
theorem prts_len {sep l p : List Nat} (h : sep ≠ []) (hk : (sep.all (· < 256)) = true) (hp : p ∈ prts sep l) : p.length ≤ l.length := by
  have := joinL_part sep hp
  rwa [prts_join h hk] at this
theorem spl_some (sep : List Nat) : ∀ (l : List Nat) (k : Nat) (acc : List Nat), TL.spl sep k acc l ≠ []
  | [], k, acc => by
    rw [TL.spl_nil]
    simp
  | c :: r, 0, acc => by
    show (if TL.pre sep (c :: r) = true then acc :: TL.spl sep (sep.length - 1) [] r else TL.spl sep 0 (acc ++ [c]) r) ≠ []
    split
    · simp
    · exact spl_some sep r 0 _
  | c :: r, k + 1, acc => by
    show TL.spl sep k acc r ≠ []
    exact spl_some sep r k acc
theorem prts_ne (sep l : List Nat) : prts sep l ≠ [] := spl_some sep l 0 []
theorem prts_pos (sep l : List Nat) : 0 < (prts sep l).length := List.length_pos_iff.mpr (prts_ne sep l)
theorem joinL_count (sep : List Nat) (h : 0 < sep.length) : ∀ ps : List (List Nat), ps.length ≤ (TL.joinL sep ps).length + 1
  | [] => Nat.zero_le _
  | [q] => by show 1 ≤ _; omega
  | q :: r :: s => by
    show (q :: r :: s).length ≤ (q ++ (sep ++ TL.joinL sep (r :: s))).length + 1
    have := joinL_count sep h (r :: s)
    rw [List.length_append, List.length_append, List.length_cons]
    omega
theorem prts_count {sep l : List Nat} (h : sep ≠ []) (hk : (sep.all (· < 256)) = true) : (prts sep l).length ≤ l.length + 1 := by
  have := joinL_count sep (List.length_pos_iff.mpr h) (prts sep l)
  rwa [prts_join h hk] at this
section
variable {K : PySem.W.Frag} {σ : L2.St} {H : Hp} {te ta tb : TE} {a : Addr} {d d1 d2 n : Nat} {D : Ends} {PA : List V → Prop} {P : V → Prop} {t u : TT} {tu tw tz : TS}
/-- xs[j] = a new tuple, drawn -/
theorem sw_setU {xs : List V} {l : Addr} {j : Nat} (hl : H l = some (.lst xs)) (nl : l ≠ a) (h : EvWU a d te σ H PA) (ho : ∀ H1, Ev ta σ H1 (.ref l)) (hi : ∀ H1, Ev tb σ H1 (.int (j : Int))) (hj : j < xs.length) (w : Well H a n) (hn : n + d ≤ 2 ^ 50)
    (k : ∀ p ys H1, H p = none → But a H H1 → Well H1 a (n + d) → H1 p = some (.tup ys) → PA ys → D.nx σ (upd H1 l (.lst (xs.set j (.ref p))))) : tAsg te (gSub ta tb rSetL) D σ H :=
  h n H (But.refl a H) w (by omega) _ fun p ys H1 hp b1 w1 g1 pv => ho H1 H1 (Ex.refl H1) _ fun H2 e2 => hi H2 H2 (Ex.refl H2) _ fun H3 e3 => by
    have e13 := e2.trans e3
    exact ⟨l, xs, (j : Int), j, rfl, rfl, e13 _ _ (b1 _ _ nl hl), ixN_nat (by omega), k p ys H3 hp (b1.trans (But.ex e13)) (w1.ex e13) (e13 _ _ g1) pv⟩
/-- if draw.. == c and test: .. -/
theorem sw_ifAnd {b : Bool} (h : EvW a d te σ H (fun v => ∃ b, v = .bl b)) (hb : ∀ H1, But a H H1 → EvT u σ H1 b) (w : Well H a n) (l : n + d ≤ 2 ^ 50) (k1 : b = true → ∀ H1, But a H H1 → Well H1 a (n + d) → tu D σ H1)
    (k2 : ∀ H1, But a H H1 → Well H1 a (n + d) → tw D σ H1) : tIfS (tAnd (tTest te) u) tu tw D σ H :=
  h n H (But.refl a H) w l _ fun v H2 b2 w2 ⟨c, e⟩ => ⟨c, e, by
    cases c with
    | true =>
      refine hb H2 b2 H2 (Ex.refl H2) _ fun H3 e3 => ?_
      cases b with
      | true => exact iteT (k1 rfl H3 (b2.trans (But.ex e3)) (w2.ex e3))
      | false => exact iteF (k2 H3 (b2.trans (But.ex e3)) (w2.ex e3))
    | false => exact iteF (k2 H2 b2 w2)⟩
end
end Bk
namespace Bk
open PySem PySem.Spec PyProof.Rows L2 Evl
/-! ### several except clauses, some of which keep the error by a name -/
def wKeptM (K : PySem.W.Frag) (Wout : WX) (D : Ends) : List (Value × Option Nat × TS) → WX
  | [] => Wout
  | (c, some i, ts) :: r => fun cls d σ H => ∃ b, PySem.W.exmOne K cls c = some b ∧ (b = true → ∀ a, H a = none → ts { nx := fun σ' H' => D.nx (σ'.set i none) H', rt := D.rt, bk := fun σ' H' => D.bk (σ'.set i none) H', ct := fun σ' H' => D.ct (σ'.set i none) H' } (σ.set i (some (.ref a))) (upd H a (ExK cls d a))) ∧
    (b = false → wKeptM K Wout D r cls d σ H)
  | (c, none, ts) :: r => fun cls d σ H => ∃ b, PySem.W.exmOne K cls c = some b ∧ (b = true → ts D σ H) ∧ (b = false → wKeptM K Wout D r cls d σ H)
inductive HdsK (X : Cx) : List ExceptHandler → List (Value × Option Nat × TS) → Prop
  | nil : HdsK X [] []
  | named {x n : Str} {c : Value} {i : Nat} {ts : TS} {b₀ : Stmt} {suite : List Stmt} {np pos' : Pos} {hds : List ExceptHandler} {l : List (Value × Option Nat × TS)} (hc : Names X x c) (hi : X.N[i]? = some n) (hln : X.env.kindOf n = some .local)
      (hsu : ∀ (a : Addr) (pn : List (Addr × Obj)), PSs (X.suite a pn) (b₀ :: suite) ts) (r : HdsK X hds l) :
      HdsK X (.ExceptHandler (some (.Name x np)) (some n) (b₀ :: suite) pos' :: hds) ((c, some i, ts) :: l)
  | bare {x : Str} {c : Value} {ts : TS} {b₀ : Stmt} {suite : List Stmt} {np pos' : Pos} {hds : List ExceptHandler} {l : List (Value × Option Nat × TS)} (hc : Names X x c)
      (hsu : ∀ (a : Addr) (pn : List (Addr × Obj)), PSs (X.suite a pn) (b₀ :: suite) ts) (r : HdsK X hds l) :
      HdsK X (.ExceptHandler (some (.Name x np)) none (b₀ :: suite) pos' :: hds) ((c, none, ts) :: l)
section
variable {X : Cx} {body : List Stmt} {h₀ : ExceptHandler} {hds : List ExceptHandler} {l : List (Value × Option Nat × TS)} {pos : Pos} {tb : WX → TS} {Wout : WX}
theorem ps_try_keptM (hs : X.stack = X.env :: X.outer) (hf : X.env.frame = some X.env.locals) (hex : X.ex = []) (hN : X.N.Nodup) (tk : Takes X Wout)
    (hb : ∀ (W : WX) (pn : List (Addr × Obj)) (xe : Value → Shared → Prop), Takes (X.tr pn xe) W → PassesOwn (model X.prog X.w) X.A X.env xe → PSs (X.tr pn xe) body (tb W))
    (hh : HdsK X (h₀ :: hds) l) : PS X (.Try body (h₀ :: hds) [] [] pos) (fun D σ H => tb (wKeptM X.K Wout D l) D σ H) := by
  refine ⟨fun pins s σ H D I h => ?_⟩
  have ok0 := I.ok
  have frm : X.A.frames = some (X.env :: X.outer) := by rw [ok0.frames, hs]
  refine wpAny_Try_except ?_
  have run := (hb (wKeptM X.K Wout D l) (X.pn ++ pins) (fun ev t1 => wpAny (model X.prog X.w) X.A (noteFrame ev X.env) (fun _ t2 => wpAny (model X.prog X.w) X.A (setFlight ev none) (fun _ t3 =>
    wpAny (model X.prog X.w) X.A (handleBy ev X.env (h₀ :: hds)) (SP X pins D) X.xe t3) X.xe t2) X.xe t1) (fun u t' air => ?_) PassesOwn.looking).run [] s σ H D (I.toTry _) h
  · refine wpAny_mono run (fun fl t1 hfl => ?_) (fun _ _ he => he)
    cases fl with
    | next =>
      obtain ⟨σ', H', J, q⟩ := hfl
      exact wpAny_execs_nil ⟨σ', H', J.ofTry ok0, q⟩
    | brk =>
      obtain ⟨σ', H', J, q⟩ := hfl
      exact ⟨σ', H', J.ofTry ok0, q⟩
    | cont =>
      obtain ⟨σ', H', J, q⟩ := hfl
      exact ⟨σ', H', J.ofTry ok0, q⟩
    | ret u =>
      obtain ⟨v, σ', H', J, r, q⟩ := hfl
      exact ⟨v, σ', H', J.ofTry ok0, r, q⟩
  · obtain ⟨a, B, sJ, pins', σ', H', cls, d, rfl, Jt, nb, up, sky, na, eos, bare, w⟩ := air
    have J : Inv X pins σ' H' sJ := Jt.ofTry ok0
    have skyE : Sky B (X.env :: X.outer) a (Zc cls d) X.env.locals t'.heap := by rw [← hs]; exact sky
    show wpAny (model X.prog X.w) X.A (noteFrame (.ref a) X.env) _ _ _
    refine Sky.land Zc.steady frm hf skyE fun g3 f3 u3 => ?_
    have J3 : Inv X pins σ' H' { t' with heap := g3 } := J.landed nb f3.1 (up.trans u3) eos bare
    obtain ⟨o3, v3, ho3, hz3, hd3⟩ := f3.there
    have notIn : ∀ {hh : Heap} {o : Obj} {vs : Array Value}, hh.FunFrames B (X.env :: X.outer) → hh.get? a = some o → o.data = .fields vs → a ∉ frs (X.env :: X.outer) := fun {hh o vs} ff e dd hm => by
      obtain ⟨_, o', e', nf⟩ := ff.mem hm
      rw [e] at e'
      cases e'
      exact nf _ dd
    have nfr := notIn f3.2.2.1 ho3 hd3
    have nL : a ≠ X.env.locals := fun z => nfr (List.mem_filterMap.mpr ⟨X.env, List.mem_cons_self, by rw [hf, z]⟩)
    have nJ : sJ.heap.get? a = none := by
      cases q : sJ.heap.get? a with
      | none => rfl
      | some o =>
        have r := nb a o q (by rw [show frs (X.tr (X.pn ++ pins) _).stack = frs (X.env :: X.outer) by rw [← hs]]; exact nfr)
        rw [f3.2.1] at r
        cases r
    have n0 : X.s_0.heap.get? a = none := by
      cases q : X.s_0.heap.get? a with
      | none => rfl
      | some o =>
        obtain ⟨o', r⟩ := J.base.there a o q (by rw [hex]; exact List.not_mem_nil)
        rw [nJ] at r
        cases r
    have nP : ∀ p ∈ X.pn ++ pins, p.1 ≠ a := fun p hp z => by
      have r := (J.pin p hp).1
      rw [z, nJ] at r
      cases r
    have lt : PySem.W.Looks (model X.prog X.w) g3 (typeOf (.ref a)) cls := fun A Q E s k q => wpAny_typeOf_ref (k _ _ ho3) (by rw [hz3.1]; exact q)
    have S3 := suite0 J3 a
    have asks : ∀ {x : Str} {c : Value} {np : Pos}, Names X x c → ∀ {Q : Value → Shared → Prop} {E : Value → Shared → Prop}, Q c { t' with heap := g3 } → wpAny (model X.prog X.w) (X.A.mark (some (.ref a))) (eval (.Name x np) X.env) Q E { t' with heap := g3 } := fun {x c np} hc {Q E} q => by
      obtain ⟨hg, hdbg, hm | ⟨hm, hv, hnn⟩⟩ := hc
      · exact ld_glob (X := X.suite a (X.pn ++ pins)) S3 hg hm q hdbg
      · exact ld_blt (X := X.suite a (X.pn ++ pins)) S3 hg hm hv q hnn hdbg
    have go : ∀ {hds' : List ExceptHandler} {l' : List (Value × Option Nat × TS)}, HdsK X hds' l' → wKeptM X.K Wout D l' cls d σ' H' →
        wpAny (model X.prog X.w) X.A (handleBy (.ref a) X.env hds') (SP X pins D) X.xe { t' with heap := g3 } := by
      intro hds' l' hk
      induction hk with
      | nil =>
        intro w
        refine wpAny_handleBy_nil ?_
        obtain ⟨y1, y2, y3, oe, vs, T, oT, ts', he, hz, hd, h1, hr⟩ := id f3
        unfold PySem.passOn
        refine wpAny_bind (wpAny_field he hd h1 ?_)
        rw [if_neg (show ¬ ((Value.ref T == Value.none) = true) from by simp)]
        have onward : wpAny (model X.prog X.w) X.A (setFlight (.ref a) X.env.frame) (fun _ s4 => wpAny (model X.prog X.w) X.A (throw (.ref a) : Sem Flow) (SP X pins D) X.xe s4) X.xe { t' with heap := g3 } := by
          rw [hf]
          refine HandSPX.setFlight_upZ f3 fun g4 hh4 u4 => wpAny_throw (tk _ _ ?_)
          exact ⟨a, B, sJ, pins, σ', H', cls, d, rfl, J, nb, (up.trans u3).trans u4, .inr (.inr (by rw [hs]; exact hh4)), na, eos, bare, w⟩
        first
          | exact wpAny_bind (wpAny_pure (wpAny_bind onward))
          | exact wpAny_bind onward
      | @named x n c i ts b₀ suite np pos' hds2 l2 hc hi hln hsu r ih =>
        intro w
        obtain ⟨b, hb1, hyes, hno⟩ := w
        have isLoc : Loc X.env.scope n := .inl hln
        refine wpAny_handleBy_cons (codeAny_handlers_test ?_) (by intro q; cases q)
        have lm := PySem.W.exm_one (M := model X.prog X.w) (J3.kIn) lt hb1
        refine asks hc (lm.here ?_)
        cases b with
        | true =>
          refine codeAny_handlers_suite_as ?_
          refine HandSPX.lands_againZ f3 fun g4 f4 u4 => ?_
          have J4 : Inv X pins σ' H' { t' with heap := g4 } := J.landed nb f4.1 ((up.trans u3).trans u4) eos bare
          obtain ⟨o4, v4, ho4, hz4, hd4⟩ := f4.there
          have S4 := suite0 (adopt J4 ho4 hz4 hd4 na n0 nL nP) a
          refine store_ok (X := X.suite a (X.pn ++ pins)) (v := .ref a) S4 hN hi isLoc rfl (fun s5 S5 => ?_) (.inr hln)
          refine wpAny_mono ((hsu a (X.pn ++ pins)).run [] s5 _ _ _ S5 (hyes rfl a na)) (fun fl s6 hfl => ?_) (fun _ _ z => False.elim z)
          have away : ∀ {σ6 : L2.St} {H6 : Hp} {Q : Shared → Prop}, Inv (X.suite a (X.pn ++ pins)) [] σ6 H6 s6 → (∀ s7, Inv X pins (σ6.set i none) H6 s7 → Q s7) →
              wpAny (model X.prog X.w) X.A (do bindName X.env n .none; unbindBehindTheSuite X.env n pos') (fun _ s7 => Q s7) X.xe s6 := fun {σ6 H6 Q} S6 hq => gone_ok (unsuite0 S6 ok0) hN hi hln hq
          cases fl with
          | next =>
            obtain ⟨σ6, H6, S6, q6⟩ := hfl
            exact away S6 fun s7 J7 => ⟨_, _, J7, q6⟩
          | brk =>
            obtain ⟨σ6, H6, S6, q6⟩ := hfl
            exact away S6 fun s7 J7 => ⟨_, _, J7, q6⟩
          | cont =>
            obtain ⟨σ6, H6, S6, q6⟩ := hfl
            exact away S6 fun s7 J7 => ⟨_, _, J7, q6⟩
          | ret u =>
            obtain ⟨v6, σ6, H6, S6, r6, q6⟩ := hfl
            exact away S6 fun s7 J7 => ⟨_, _, _, J7, r6, q6⟩
        | false =>
          show wpAny _ X.A (handleBy (.ref a) X.env hds2) _ _ _
          exact ih (hno rfl)
      | @bare x c ts b₀ suite np pos' hds2 l2 hc hsu r ih =>
        intro w
        obtain ⟨b, hb1, hyes, hno⟩ := w
        refine wpAny_handleBy_cons (codeAny_handlers_test ?_) (by intro q; cases q)
        have lm := PySem.W.exm_one (M := model X.prog X.w) (J3.kIn) lt hb1
        refine asks hc (lm.here ?_)
        cases b with
        | true =>
          refine codeAny_handlers_suite ?_
          refine HandSPX.lands_againZ f3 fun g4 f4 u4 => ?_
          have J4 : Inv X pins σ' H' { t' with heap := g4 } := J.landed nb f4.1 ((up.trans u3).trans u4) eos bare
          have S4 := suite0 J4 a
          refine wpAny_mono ((hsu a (X.pn ++ pins)).run [] _ _ H' _ S4 (hyes rfl)) (fun f s6 hsp => ?_) (fun _ _ z => False.elim z)
          cases f with
          | next =>
            obtain ⟨σ6, H6, S6, q6⟩ := hsp
            exact ⟨_, _, unsuite0 S6 ok0, q6⟩
          | brk =>
            obtain ⟨σ6, H6, S6, q6⟩ := hsp
            exact ⟨_, _, unsuite0 S6 ok0, q6⟩
          | cont =>
            obtain ⟨σ6, H6, S6, q6⟩ := hsp
            exact ⟨_, _, unsuite0 S6 ok0, q6⟩
          | ret u =>
            obtain ⟨v6, σ6, H6, S6, r6, q6⟩ := hsp
            exact ⟨_, _, _, unsuite0 S6 ok0, r6, q6⟩
        | false =>
          show wpAny _ X.A (handleBy (.ref a) X.env hds2) _ _ _
          exact ih (hno rfl)
    exact go hh w
end
end Bk
namespace Bk
open PySem PySem.Spec PyProof.Rows L2 Evl SX
/-! ### values without a text; new tuples of any values; lists of truths compared; parts of texts -/
def NotS (H : Hp) (x : V) : Prop := x = .non ∨ (∃ m, x = .int m) ∨ (∃ c, x = .bl c) ∨ (∃ a xs, x = .ref a ∧ H a = some (.lst xs)) ∨ (∃ a xs, x = .ref a ∧ H a = some (.tup xs)) ∨ (∃ a kvs, x = .ref a ∧ H a = some (.dK kvs))
theorem NotS.ex {H H' : Hp} {x : V} (h : NotS H x) (e : Ex H H') : NotS H' x := by
  rcases h with h | h | h | ⟨a, xs, h, g⟩ | ⟨a, xs, h, g⟩ | ⟨a, xs, h, g⟩
  · exact .inl h
  · exact .inr (.inl h)
  · exact .inr (.inr (.inl h))
  · exact .inr (.inr (.inr (.inl ⟨a, xs, h, e _ _ g⟩)))
  · exact .inr (.inr (.inr (.inr (.inl ⟨a, xs, h, e _ _ g⟩))))
  · exact .inr (.inr (.inr (.inr (.inr ⟨a, xs, h, e _ _ g⟩))))
theorem kb_int_str' : kitB "int" "str" = some false := by decide +kernel
theorem kb_none_str' : kitB "NoneType" "str" = some false := by decide +kernel
theorem kb_bool_str' : kitB "bool" "str" = some false := by decide +kernel
theorem kb_list_str' : kitB "list" "str" = some false := by decide +kernel
theorem kb_tuple_str' : kitB "tuple" "str" = some false := by decide +kernel
theorem kb_dict_str' : kitB "dict" "str" = some false := by decide +kernel
section
variable {K : PySem.W.Frag} {σ : L2.St} {H : Hp} {ta tb te tl : TE} {t : TA} {D : Ends} {tu tz : TS} {P : V → Hp → Prop} {PL : List V → Hp → Prop} {n : Nat}
theorem ev_notS {x : V} (h : Ev ta σ H x) (o : NotS H x) : Ev (tCB (rIsi K) (tCons ta (tCons (tC (.ty "str")) tNil))) σ H (.bl false) := by
  rcases o with rfl | ⟨m, rfl⟩ | ⟨c, rfl⟩ | ⟨a, xs, rfl, g⟩ | ⟨a, xs, rfl, g⟩ | ⟨a, kvs, rfl, g⟩
  · exact ev_isi h (fun _ _ => .base .non) kb_none_str'
  · exact ev_isi h (fun _ _ => .base (.int m)) kb_int_str'
  · exact ev_isi h (fun _ _ => .base (.bl c)) kb_bool_str'
  · exact ev_isi h (fun _ e => .base (.lst (e _ _ g))) kb_list_str'
  · exact ev_isi h (fun _ e => .base (.tup (e _ _ g))) kb_tuple_str'
  · exact ev_isi h (fun _ e => .base (.dK (e _ _ g))) kb_dict_str'
def EvUP (te : TE) (σ : L2.St) (H : Hp) (P : List V → Hp → Prop) : Prop := ∀ H1, Ex H H1 → ∀ Q : VK, (∀ p xs H2, H1 p = none → Ex H1 H2 → H2 p = some (.tup xs) → P xs H2 → Q (.ref p) H2) → te σ H1 Q
theorem eup_tup (mono : ∀ v H1 H2, Ex H1 H2 → P v H1 → P v H2) (h : EvAP t σ H (AllP P n)) (hn : n ≤ 100000) : EvUP (tTup t) σ H (AllP P n) := fun H1 e Q q =>
  h H1 e _ fun xs H2 e2 ⟨l, px⟩ => ⟨sz_of (by omega), fun p hp => q p xs _ (fresh_back e2 hp) (e2.trans (Ex.new hp)) upd_same ⟨l, fun v hv => mono _ _ _ (Ex.new hp) (px v hv)⟩⟩
theorem q_forUP {j : Nat} (h : EvUP tl σ H PL) (Pv : Addr → List V → Nat → L2.St → Hp → Prop) (h0 : ∀ p xs H1, H p = none → Ex H H1 → H1 p = some (.tup xs) → PL xs H1 → Pv p xs 0 σ H1)
    (hl : ∀ p xs i σ' H', i ≤ xs.length → Pv p xs i σ' H' → SqT K H' p xs)
    (hs : ∀ p xs i x σ' H', xs[i]? = some x → Pv p xs i σ' H' → tu { D with nx := Pv p xs (i + 1), ct := Pv p xs (i + 1), bk := tz D } (σ'.set j (some x)) H') (hd : ∀ p xs σ' H', Pv p xs xs.length σ' H' → tz D σ' H') : tSeq (tFor (iTup K tl) (gName j) tu) tz D σ H :=
  h H (Ex.refl H) _ fun p xs H1 hp e h1 px => ⟨p, rfl, ⟨xs, st_of h1⟩, for_tup (D := { D with nx := tz D }) (Pv p xs) (h0 p xs H1 hp e h1 px) (hl p xs) (fun i x σ' H' hx k => hs p xs i x σ' H' hx k) (hd p xs)⟩
theorem ev_cVL {sp : Sp} {E : XK} {x v : V} {xs : List V} (h1 : Ev ta σ H x) (h2 : EvL tb σ H xs) (hs : ∀ p H1, Ex H H1 → H1 p = some (.lst xs) → SpV sp [x, .ref p] H1 v) : Ev (tCall sp [] E (tCons ta (tCons tb tNil))) σ H v := fun H1 e Q q =>
  h1 H1 e _ fun H2 e2 => h2 H2 (e.trans e2) _ fun p H3 hp e3 g3 => hs p H3 ((e.trans e2).trans e3) g3 H3 (Ex.refl H3) Q (fun H4 e4 => q H4 ((e2.trans e3).trans e4)) E
theorem eu_slT {tl th : TO} {a : Addr} {xs : List V} {lo hi : Option Int} (h : Ev te σ H (.ref a)) (h1 : EvO tl σ H lo) (h2 : EvO th σ H hi) (hs : SqT K H a xs) (hw : ¬ (HT.sIx xs.length 0 lo = 0 ∧ HT.sIx xs.length xs.length hi = xs.length)) : EvU (tSl (rSlT K) te tl th) σ H (cutV xs lo hi) := fun H1 e _ q =>
  h H1 e _ fun H2 e2 => h1 H2 (e.trans e2) _ fun H3 e3 => h2 H3 ((e.trans e2).trans e3) _ fun H4 e4 =>
    ⟨a, xs, rfl, ex_t (((e.trans e2).trans e3).trans e4) hs, hw, fun p hp => q p _ (fresh_back ((e2.trans e3).trans e4) hp) (((e2.trans e3).trans e4).trans (Ex.new hp)) upd_same⟩
theorem el_repV {xs : List V} {n : Int} {p : Addr} (ha : Ev ta σ H (.ref p)) (g : H p = some (.lst xs)) (hb : ∀ H1, Ex H H1 → Ev tb σ H1 (.int n)) (h0 : 0 ≤ n) (hz : xs.length * n.toNat ≤ 100000) (hn : n ≤ 100000) : EvL (tOp rRep ta tb) σ H (List.replicate n.toNat xs).flatten := fun H1 e Q q =>
  ha H1 e _ fun H2 e2 => hb H2 (e.trans e2) H2 (Ex.refl H2) _ fun H3 e3 => ⟨p, n, xs, rfl, rfl, ((e.trans e2).trans e3) _ _ g, by omega, by omega, sz_of hz, fun l hl => q l _ (fresh_back (e2.trans e3) hl) ((e2.trans e3).trans (Ex.new hl)) upd_same⟩
theorem ev_joinL {ps : List (List Nat)} {sep : List Nat} (h : Ev ta σ H (.str (S sep))) (h' : EvL tb σ H (ps.map fun l => V.str (S l))) (hz : (ps.map (·.length)).sum + ps.length * sep.length ≤ 16777216) : Ev (tM1 (rJoin K) ta tb) σ H (.str (S (TL.joinL sep ps))) := by
  refine ev_is (ev_joinN (ys := ps.map S) h (el_is h' (by rw [List.map_map]; rfl)) ?_) (congrArg V.str (join_S sep ps))
  rw [List.map_map, List.length_map, S_len]
  have e : ps.map ((·.length) ∘ S) = ps.map (·.length) := List.map_congr_left fun l _ => S_len l
  rw [e]
  exact hz
/-! lists of truths -/
def dbs (bs : List Bool) : List PyData := bs.map .bool
theorem dpAll_bls (K : PySem.W.Frag) (H : Hp) : ∀ bs : List Bool, DpAll K H (bs.map .bl) (dbs bs)
  | [] => .nil
  | b :: bs => .cons (.bl b) (dpAll_bls K H bs)
theorem bls_ok : ∀ bs : List Bool, PyData.canLayAll0 (dbs bs) = true ∧ PyData.depthAll (dbs bs) = 0
  | [] => ⟨rfl, rfl⟩
  | b :: bs => by
    obtain ⟨x, y⟩ := bls_ok bs
    constructor
    · show PyData.canLayAll0 (.bool b :: dbs bs) = true
      rw [PyData.canLayAll0, PyData.canLay0, x]
      rfl
    · show PyData.depthAll (.bool b :: dbs bs) = 0
      rw [PyData.depthAll, PyData.depth, y]
      rfl
theorem bls_sh (bs : List Bool) : SeqAt.shaped (.list (dbs bs)) = true := by
  unfold SeqAt.shaped
  rw [PyData.canLay0, PyData.depth, (bls_ok bs).1, (bls_ok bs).2]
  rfl
theorem bls_eqv : ∀ bs : List Bool, PyData.eqvAll (dbs bs) (dbs bs) = true
  | [] => rfl
  | b :: bs => by
    show PyData.eqvAll (.bool b :: dbs bs) (.bool b :: dbs bs) = true
    rw [PyData.eqvAll, PyData.eqv, bls_eqv bs]
    simp
theorem ev_neBls {p : Addr} {bs : List Bool} (ha : Ev ta σ H (.ref p)) (g : SqL K H p (bs.map .bl)) (hb : EvL tb σ H (bs.map .bl)) : Ev (tOp (rNeD K) ta tb) σ H (.bl false) := fun H1 e Q k =>
  ha H1 e _ fun H2 e2 => hb H2 (e.trans e2) _ fun q H3 _ e3 g3 => ⟨.list (dbs bs), .list (dbs bs), .lst (ex_l ((e.trans e2).trans e3) g) (dpAll_bls K H3 bs), .lst (sq_of g3) (dpAll_bls K H3 bs), bls_sh bs, bls_sh bs, by
    rw [PyData.eqv, bls_eqv]
    exact k H3 (e2.trans e3)⟩
end
/-! ### a def called with nothing -/
section
variable {X : Cx} {CX : CXT} {k : Nat} {f : Addr} {fd : FuncData} {ps : List Str} {sp : Sp} {E : XK} {x : Str} {p pos : Pos}
theorem callG0 (F : FnG X.prog X.w X.K X.mg X.base CX k f fd ps sp) (hr : Rm k X.A) (hg : Gl X x) (hm : X.mg x = some (.ref f)) (hk : PySem.W.keepIn X.K (.ref f) = true) (hb : Binds X.K fd ps []) (hx : Passes CX X E)
    (hdb : (x == ("__debug__" : Str)) = false := by decide) : PE X (.Call (.Name x p) [] [] pos) (tCall sp [] E tNil) := by
  refine ⟨fun pins s σ H Q I h => wpAny_Call_Name_kw (ld_glob I hg hm ?_ hdb)⟩
  refine PySem.W.callWith_K0 (first := []) I.kIn hk ?_
  exact runG (us := []) (vs := []) F hr hb .nil hx I .nil h
end
/-! ### joined parts, split -/
theorem free_no43 : ∀ {p : List Nat}, 43 ∉ p → free [32, 43, 32] p = true
  | [], _ => rfl
  | c :: r, h => by
    have hr : 43 ∉ r := fun m => h (List.mem_cons_of_mem _ m)
    have ih := free_no43 hr
    have e : TL.pre [32, 43, 32] (c :: (r ++ [32, 43, 32])) = false := by
      show ((c :: (r ++ [32, 43, 32])).take 3 == [32, 43, 32]) = false
      refine beq_eq_false_iff_ne.mpr fun z => ?_
      cases r with
      | nil => simp at z
      | cons d r =>
        simp only [List.cons_append, List.take_succ_cons, List.cons.injEq] at z
        exact hr (by rw [z.2.1]; exact List.mem_cons_self ..)
    show (!(TL.pre [32, 43, 32] (c :: (r ++ [32, 43, 32]))) && free [32, 43, 32] r) = true
    rw [e, ih]
    rfl
theorem free_last {sep p : List Nat} (h : free sep p = true) : ∀ i, i < p.length → TL.pre sep (p.drop i) = false := fun i hi => by
  have a := free_at h [] i hi
  rw [List.append_nil] at a
  cases e : TL.pre sep (p.drop i) with
  | false => rfl
  | true =>
    have e1 : (p.drop i).take sep.length = sep := eq_of_beq e
    have hl : sep.length ≤ (p.drop i).length := by
      have := congrArg List.length e1
      rw [List.length_take] at this
      omega
    rw [List.drop_append_of_le_length (by omega), pre_mono hl, e] at a
    cases a
theorem prts_free {sep : List Nat} (hs : sep ≠ []) : ∀ {ps : List (List Nat)}, ps ≠ [] → (∀ p ∈ ps, free sep p = true) → prts sep (TL.joinL sep ps) = ps
  | [], h, _ => absurd rfl h
  | [p], _, hp => by
    show TL.spl sep 0 [] p = [p]
    rw [TL.spl_last (free_last (hp p (List.mem_singleton.mpr rfl))), List.nil_append]
  | p :: q :: r, _, hp => by
    show TL.spl sep 0 [] (p ++ (sep ++ TL.joinL sep (q :: r))) = p :: q :: r
    rw [spl_free _ hs (hp p (List.mem_cons_self ..))]
    exact congrArg (p :: ·) (prts_free hs (by simp) fun z hz => hp z (List.mem_cons_of_mem _ hz))
end Bk
namespace Bk
open PySem PySem.Spec PyProof.Rows L2 Evl SX
/-! ### texts sign by sign; the numbers' texts back -/
def rNotInS : R2 := fun x y H Q => ∃ (c : Nat) (z : Str), x = .str ⟨#[c]⟩ ∧ y = .str z ∧ Q (.bl (!decide (c ∈ z.cps.toList))) H
theorem op_notInS {X : Cx} : OpR X (compareOp .NotIn) rNotInS := op_notIn_sign
theorem given_filterN {α : Type} (xs : List α) (d : α) (p : α → Bool) (g : α → V) : given xs.length (fun j => p (xs.getD j d)) (fun j => g (xs.getD j d)) = (xs.filter p).map g := by
  have e : xs = (List.range xs.length).map fun j => xs.getD j d := by
    refine List.ext_getElem? fun i => ?_
    rw [List.getElem?_map]
    by_cases hi : i < xs.length
    · rw [List.getElem?_range hi, List.getElem?_eq_getElem hi]
      show _ = some (xs.getD i d)
      rw [List.getD_eq_getElem?_getD, List.getElem?_eq_getElem hi]
      rfl
    · rw [List.getElem?_eq_none (by omega), List.getElem?_eq_none (by rw [List.length_range]; omega)]
      rfl
  have e2 : xs.filter p = ((List.range xs.length).filter fun j => p (xs.getD j d)).map fun j => xs.getD j d := by
    conv => lhs; rw [e]
    rw [List.filter_map]
    rfl
  unfold given
  rw [e2, List.map_map]
  rfl
theorem S_sign (c : Nat) : (⟨#[c]⟩ : Str) = S [c] := rfl
theorem S_size (l : List Nat) : (S l).cps.size = l.length := S_len l
theorem S_get {l : List Nat} {i c : Nat} (h : (S l).cps[i]? = some c) : l[i]? = some c := by
  rw [← Array.getElem?_toList] at h
  exact h
theorem mem_S {c : Nat} {l : List Nat} : decide (c ∈ (S l).cps.toList) = decide (c ∈ l) := rfl
section
variable {K : PySem.W.Frag} {σ : L2.St} {H : Hp} {ta tb tl te t : TE} {tt : TT}
/-- [sign for sign in text if ..] -/
theorem el_lcS {j : Nat} {ws : List Nat} {l : List Nat} (f : Nat → Bool) (h : Ev tl σ H (.str (S l))) (hz : l.length ≤ 40000) (hw : ∀ x, wipe ((wipe σ ws).set j (some x)) ws = wipe σ ws)
    (ht : ∀ (c : Nat) H1, Ex H H1 → c ∈ l → EvT tt ((wipe σ ws).set j (some (.str (S [c])))) H1 (f c)) (he : ∀ (c : Nat) H1, Ex H H1 → c ∈ l → f c = true → Ev te ((wipe σ ws).set j (some (.str (S [c])))) H1 (.str (S [c]))) :
    EvL (tLc (iStr tl) (gName j) tt te ws) σ H (vs ((l.filter f).map fun c => [c])) := by
  have e0 : vs ((l.filter f).map fun c => [c]) = given l.length (fun i => f (l.getD i 0)) (fun i => V.str (S [l.getD i 0])) := by
    rw [given_filterN l 0 f fun c => V.str (S [c])]
    unfold vs
    rw [List.map_map]
    rfl
  rw [e0]
  intro H0 e Q q
  refine h H0 e _ fun H1 e1 => ⟨S l, rfl, fun Dl hD => ?_⟩
  refine lc_it (walk_str (z := S l)) (Cw H1 (fun i => f (l.getD i 0)) (fun i => V.str (S [l.getD i 0])) Dl) ⟨hD, Ex.new hD, upd_same⟩ (fun _ _ _ _ => trivial) (fun i x H2 H3 hi p y => ?_) fun H' p => q Dl H' (fresh_back e1 (by rw [S_size] at p; exact p.1)) (e1.trans (by rw [S_size] at p; exact p.2.1)) (by rw [S_size] at p; exact p.2.2)
  obtain ⟨rfl, c, hc, rfl⟩ := y
  have hg := S_get hc
  have hm := List.mem_of_getElem? hg
  have hd : l.getD i 0 = c := by rw [List.getD_eq_getElem?_getD, hg]; rfl
  rw [S_size] at hi
  refine ⟨hw _, cw_turn p (by omega) ?_ ?_⟩
  · show EvT tt _ H1 (f (l.getD i 0))
    rw [hd]
    exact ht c H1 (e.trans e1) hm
  · intro hf
    have hf' : f (l.getD i 0) = true := hf
    rw [hd] at hf'
    show Ev te _ H1 (V.str (S [l.getD i 0]))
    rw [hd]
    exact he c H1 (e.trans e1) hm hf'
theorem ev_neTT {as bs : List (List Nat)} (ha : strsOk as) (hb : strsOk bs) (h1 : EvL ta σ H (vs as)) (h2 : EvL tb σ H (vs bs)) : Ev (tOp (rNeD K) ta tb) σ H (.bl (!decide (as = bs))) := fun H1 e Q k =>
  h1 H1 e _ fun p H2 _ e2 g2 => h2 H2 (e.trans e2) _ fun q H3 _ e3 g3 => ⟨.list (ds as), .list (ds bs), .lst (sq_of (e3 _ _ g2)) (dpAll_strs K H3 as), .lst (sq_of g3) (dpAll_strs K H3 bs), shaped_strs ha, shaped_strs hb, by
    rw [PyData.eqv, eqvAll_strs]
    exact k H3 (e2.trans e3)⟩
theorem ev_notInS {c : Nat} {l : List Nat} (h1 : Ev ta σ H (.str (S [c]))) (h2 : Ev tb σ H (.str (S l))) : Ev (tOp rNotInS ta tb) σ H (.bl (!decide (c ∈ l))) := fun H1 e Q k =>
  h1 H1 e _ fun H2 e2 => h2 H2 (e.trans e2) _ fun H3 e3 => ⟨c, S l, rfl, rfl, k H3 (e2.trans e3)⟩
theorem rv_ixTx {l : List Nat} {i : Int} {c : Nat} (hl : l.length ≤ 16000000) (h : atI l i = some c) : RV rIxS (.str (S l)) (.int i) H (.str (S [c])) := fun H1 e Q k => ⟨S l, i, c, rfl, rfl, by rw [S_len]; show _ ≤ 2 ^ 24; omega, h, k H1 (Ex.refl H1)⟩
end
/-! the numbers' texts back -/
theorem natT_inv {l : List Nat} {n : Nat} (h : natT l = some n) : TL.numL n = l := by
  unfold natT at h
  split at h
  · rename_i c
    obtain ⟨h1, h2, h3⟩ := c
    injection h with h
    subst h
    have ad : NumText.AllDigits l := fun c hc => by
      have := List.all_eq_true.mp h1 c hc
      unfold dg at this
      simp only [Bool.and_eq_true, decide_eq_true_eq] at this
      exact this
    obtain ⟨c, r, rfl⟩ : ∃ c r, l = c :: r := by
      cases l with
      | nil => exact absurd rfl h2
      | cons c r => exact ⟨c, r, rfl⟩
    have := NumText.toDigits_digitsVal r.length (c :: r) rfl ad (by
      by_cases hr : r = []
      · exact .inl (by rw [hr]; rfl)
      · refine .inr ⟨c, r, rfl, ?_⟩
        have a := ad c (List.mem_cons_self ..)
        by_cases h48 : c = 48
        · have := h3 (by rw [h48]; rfl)
          injection this with _ x
          exact absurd x hr
        · omega)
    unfold TL.numL
    rw [this, List.map_map]
    conv => rhs; rw [← List.map_id (c :: r)]
    refine List.map_congr_left fun x hx => ?_
    have a := ad x hx
    show (Char.ofNat x).toNat = x
    have : x = 48 ∨ x = 49 ∨ x = 50 ∨ x = 51 ∨ x = 52 ∨ x = 53 ∨ x = 54 ∨ x = 55 ∨ x = 56 ∨ x = 57 := by omega
    rcases this with h | h | h | h | h | h | h | h | h | h <;> subst h <;> rfl
  · cases h
theorem wholeT_inv {l : List Nat} {n : Int} (h : wholeT l = some n) : numT n = l := by
  unfold wholeT at h
  split at h
  · rename_i c
    cases hn : natT (l.drop 1) with
    | none =>
      rw [hn] at h
      cases h
    | some m =>
      rw [hn] at h
      replace h : (if m = 0 then none else some (-(m : Int))) = some n := h
      split at h
      · cases h
      · rename_i m0
        injection h with h
        subst h
        have := natT_inv hn
        unfold numT
        rw [if_pos (by omega), show (-(m : Int)).natAbs = m by omega, this]
        conv => rhs; rw [← List.take_append_drop 1 l, c]
        rfl
  · cases hn : natT l with
    | none =>
      rw [hn] at h
      cases h
    | some m =>
      rw [hn] at h
      replace h : some (m : Int) = some n := h
      injection h with h
      subst h
      unfold numT
      rw [if_neg (by omega), show ((m : Int)).natAbs = m by omega]
      exact natT_inv hn

section
variable {K : PySem.W.Frag} {σ : L2.St} {H : Hp} {ta tb tc tl te : TE} {tt : TT} {xs : List V} {D : Ends} {tz : TS} {a : Addr} {n d1 d2 d3 : Nat}
/-- a comprehension over a new list -/
theorem el_lcNw {j : Nat} {ws : List Nat} (f : Nat → Bool) (v : Nat → V) (h : EvL tl σ H xs) (hz : xs.length ≤ 40000) (hw : ∀ x, wipe ((wipe σ ws).set j (some x)) ws = wipe σ ws)
    (ht : ∀ (i : Nat) (x : V) H1, Ex H H1 → xs[i]? = some x → EvT tt ((wipe σ ws).set j (some x)) H1 (f i)) (he : ∀ (i : Nat) (x : V) H1, Ex H H1 → xs[i]? = some x → f i = true → Ev te ((wipe σ ws).set j (some x)) H1 (v i)) :
    EvL (tLc (iList K tl) (gName j) tt te ws) σ H (given xs.length f v) := fun H0 e Q q => h H0 e _ fun a H1 ha e1 h1 => ⟨a, rfl, ⟨xs, sq_of h1⟩, fun Dl hD =>
  lc_list (xs := xs) (Cw H1 f v Dl) ⟨hD, Ex.new hD, upd_same⟩ (fun i H' _ p => sq_of (p.2.1 _ _ h1)) (fun i x H' hi p => ⟨hw x, cw_turn p (by have := (List.getElem?_eq_some_iff.mp hi).1; omega) (ht i x H1 (e.trans e1) hi) (fun hf => he i x H1 (e.trans e1) hi hf)⟩)
    (fun H' p => q Dl H' (fresh_back e1 p.1) (e1.trans p.2.1) p.2.2)⟩
theorem ev_inP {p : Addr} {x : V} (ha : Ev ta σ H x) (hb : Ev tb σ H (.ref p)) (g : SqL K H p xs) (fx : flatV x = true) (fs : xs.all flatV = true) : Ev (tOp (rIn K false) ta tb) σ H (.bl (inV x xs)) := fun H1 e Q k =>
  ha H1 e _ fun H2 e2 => hb H2 (e.trans e2) _ fun H3 e3 => ⟨p, xs, rfl, .inl (ex_l ((e.trans e2).trans e3) g), fx, fs, k H3 (e2.trans e3)⟩
theorem ev_indexN {l : Addr} {j : Nat} {y : V} (ha : Ev ta σ H (.ref l)) (h : SqL K H l xs) (fs : xs.all flatV = true) (hb : Ev tb σ H y) (fy : flatV y = true) (hj : ∃ z, xs[j]? = some z ∧ eqV z y = true) (hn : ∀ m z, m < j → xs[m]? = some z → eqV z y = false) : Ev (tBM K "list" (rIndex K) ta (tCons tb tNil)) σ H (.int (j : Nat)) := fun H1 e Q q =>
  ha H1 e _ fun H2 e2 => ⟨Or.inl ⟨rfl, _, ex_l (e.trans e2) h⟩, hb H2 (e.trans e2) _ fun H3 e3 => by
    obtain ⟨z, h1, h2⟩ := hj
    exact ⟨l, xs, y, j, z, rfl, rfl, ex_l ((e.trans e2).trans e3) h, fy, fs, h1, h2, hn, q H3 (e2.trans e3)⟩⟩
theorem ev_maxN {ns : List Int} {m : Int} (h : EvL ta σ H (vi ns)) (hm : m ∈ ns) (hx : ∀ y ∈ ns, y ≤ m) : Ev (tCB (rMax K) (tCons ta tNil)) σ H (.int m) := fun H1 e Q q =>
  h H1 e _ fun p H2 hp e2 g2 => ⟨p, ns, rfl, sq_of g2, List.length_pos_of_mem hm, fun k h1 h2 => by
    have := hx k h1
    have := h2 m hm
    have e0 : k = m := by omega
    rw [e0]
    exact q H2 e2⟩
theorem qw_par3VVL {i j l : Nat} {PA PB : V → Prop} {PC : List V → Prop} (h1 : EvW a d1 ta σ H PA) (h2 : EvW a d2 tb σ H PB) (h3 : EvWL a d3 tc σ H PC) (w : Well H a n) (hl : n + (d1 + d2 + d3) ≤ 2 ^ 50)
    (k : ∀ x y p zs H1, H p = none → But a H H1 → Well H1 a (n + (d1 + d2 + d3)) → PA x → PB y → H1 p = some (.lst zs) → PC zs →
      tz D (((σ.set i (some x)).set j (some y)).set l (some (.ref p))) H1) : tSeq (tPar3 i j l (tCons ta (tCons tb (tCons tc tNil)))) tz D σ H :=
  h1 n H (But.refl a H) w (by omega) _ fun x H2 b2 w2 pa => h2 (n + d1) H2 b2 w2 (by omega) _ fun y H3 b3 w3 pb => h3 (n + d1 + d2) H3 (b2.trans b3) w3 (by omega) _ fun p zs H4 hp b4 w4 g4 pc => by
    refine ⟨_, _, _, rfl, k x y p zs H4 (but_free (b2.trans b3) w3 hp) ((b2.trans b3).trans b4) ?_ pa pb g4 pc⟩
    rw [show n + (d1 + d2 + d3) = n + d1 + d2 + d3 by omega]
    exact w4
end
end Bk
namespace Bk
open PySem PySem.Spec PyProof.Rows L2 Evl SX
theorem _root_.L2.Room.units65 {k : Nat} {A : Around} (r : Room k A) : A.units + 65 < cLine := by have := r.un; omega
/-! ### a list or a text; None among data of any depth; a comprehension whose items have each a property -/
section
variable {X : Cx} {K : PySem.W.Frag}
def rLenB (K : PySem.W.Frag) : List V → Hp → VK → Prop := fun xs H Q => rLenS K xs H Q ∨ (∃ z, xs = [V.str z] ∧ z.length ≤ sizeLine ∧ Q (.int z.length) H)
theorem call_lenB (h : X.K = K) : CallR X (.builtin "len") (rLenB K) := (call_lenK h).or call_len_str
def rIxB (K : PySem.W.Frag) : R2 := fun x y H Q => rIxL K x y H Q ∨ rIxS x y H Q
theorem ix_bothK (h : X.K = K) : IxR X (rIxB K) := (ix_listK h).or ix_str
theorem op_inDK (h : X.K = K) (hu : X.A.units + 65 < cLine) : OpR X (compareOp .In) (rInD K) := by
  subst h
  exact op_inD hu
theorem mt_indexDK (h : X.K = K) (hu : X.A.units + 65 < cLine) : MtR X "list.index" (rIndexD K) := by
  subst h
  exact mt_indexD hu
end
section
variable {K : PySem.W.Frag} {σ : L2.St} {H : Hp} {ta tb tc tl te : TE} {tt : TT} {xs : List V} {a : Addr} {d : Nat}
theorem ev_lenBL {p : Addr} (ha : Ev ta σ H (.ref p)) (h : SqL K H p xs) : Ev (tCB (rLenB K) (tCons ta tNil)) σ H (.int (xs.length : Int)) := fun H1 e Q q =>
  ha H1 e _ fun H2 e2 => .inl ⟨p, xs, rfl, .inl (ex_l (e.trans e2) h), q H2 e2⟩
theorem ev_lenBS {l : List Nat} (ha : Ev ta σ H (.str (S l))) (hl : l.length ≤ 16000000) : Ev (tCB (rLenB K) (tCons ta tNil)) σ H (.int (l.length : Int)) := fun H1 e Q q =>
  ha H1 e _ fun H2 e2 => .inr ⟨S l, rfl, by rw [S_len]; show _ ≤ 2 ^ 24; omega, by rw [S_len]; exact q H2 e2⟩
/-- [f(x) for x in a new list], each item with its property -/
theorem elp_lcI {P : Nat → V → Hp → Prop} {j : Nat} {ws : List Nat} (mono : ∀ i v H1 H2, Ex H1 H2 → P i v H1 → P i v H2) (keep : ∀ i v H1 D ys zs, H1 D = some (.lst ys) → P i v H1 → P i v (upd H1 D (.lst zs)))
    (h : EvL tl σ H xs) (hz : xs.length ≤ 40000) (hw : ∀ x, wipe ((wipe σ ws).set j (some x)) ws = wipe σ ws) (he : ∀ (i : Nat) (x : V) H1, Ex H H1 → xs[i]? = some x → EvP te ((wipe σ ws).set j (some x)) H1 (P i)) :
    EvLP (tLc (iList K tl) (gName j) tYes te ws) σ H (fun ys H2 => ys.length = xs.length ∧ ∀ (i : Nat) (v : V), ys[i]? = some v → P i v H2) := fun H0 e Q q =>
  h H0 e _ fun a H1 ha e1 hx => ⟨a, rfl, ⟨xs, sq_of hx⟩, fun Dl hD =>
    lc_list (xs := xs) (fun i H' => Ex H1 H' ∧ ∃ acc : List V, H' Dl = some (.lst acc) ∧ acc.length = i ∧ ∀ (k : Nat) (v : V), acc[k]? = some v → P k v H') ⟨Ex.new hD, [], upd_same, rfl, fun _ _ h => by cases h⟩ (fun i H' _ p => sq_of (p.1 _ _ hx)) (fun i x H' hi p => ⟨hw x, by
      obtain ⟨p1, acc, g, la, pa⟩ := p
      have hi' := (List.getElem?_eq_some_iff.mp hi).1
      refine et_yes (σ := (wipe σ ws).set j (some x)) (H := H') H' (Ex.refl H') _ fun H3 e3 => iteT ?_
      refine he i x H3 (((e.trans e1).trans p1).trans e3) hi H3 (Ex.refl H3) _ fun v H4 e4 pv => ?_
      have e34 := e3.trans e4
      refine ⟨acc, e34 _ _ g, sz_lt (by omega), (p1.trans e34).mut hD, acc ++ [v], upd_same, by rw [List.length_append, la]; rfl, fun k u hk => keep _ _ _ _ _ _ (e34 _ _ g) ?_⟩
      by_cases c : k < acc.length
      · rw [List.getElem?_append_left c] at hk
        exact mono _ _ _ _ e34 (pa k u hk)
      · rw [List.getElem?_append_right (by omega)] at hk
        have k0 : k - acc.length = 0 := by
          have := (List.getElem?_eq_some_iff.mp hk).1
          have e1 : [v].length = 1 := rfl
          omega
        rw [k0] at hk
        cases hk
        have ki : k = i := by omega
        rw [ki]
        exact pv⟩)
    (fun H' ⟨p1, acc, g, la, pa⟩ => q Dl acc H' (fresh_back e1 hD) (e1.trans p1) g ⟨by omega, pa⟩)⟩
end

/-! None among terms -/
section
variable {K : PySem.W.Frag} {σ : L2.St} {H : Hp} {ta tb tl te : TE}
theorem ev_inD {d : PyData} {ds : List PyData} {x : V} (ha : Ev ta σ H x) (hx : ∀ H1, Dp K H1 x d) (hb : EvP tb σ H fun v H1 => Dp K H1 v (.list ds)) (sd : SeqAt.shaped d = true) (ss : SeqAt.shaped (.list ds) = true) : Ev (tOp (rInD K) ta tb) σ H (.bl (ds.any fun z => PyData.eqv z d)) := fun H1 e Q k =>
  ha H1 e _ fun H2 e2 => hb H2 (e.trans e2) _ fun v H3 e3 hv => ⟨d, ds, hx H3, hv, sd, ss, k H3 (e2.trans e3)⟩
theorem ev_indexD {l : Addr} {y : V} {xs : List V} {d z : PyData} {ds : List PyData} {j : Nat} (ha : Ev ta σ H (.ref l)) (g : SqL K H l xs) (hl : DpAll K H xs ds) (hb : Ev tb σ H y) (hy : ∀ H1, Dp K H1 y d) (ss : SeqAt.shaped (.list ds) = true) (sd : SeqAt.shaped d = true) (hj : ds[j]? = some z) (hz : PyData.eqv z d = true) (hn : ∀ (m : Nat) (z' : PyData), m < j → ds[m]? = some z' → PyData.eqv z' d = false) : Ev (tBM K "list" (rIndexD K) ta (tCons tb tNil)) σ H (.int (j : Nat)) := fun H1 e Q q =>
  ha H1 e _ fun H2 e2 => ⟨Or.inl ⟨rfl, _, ex_l (e.trans e2) g⟩, hb H2 (e.trans e2) _ fun H3 e3 => ⟨l, y, d, ds, j, z, rfl, rfl, .lst (ex_l ((e.trans e2).trans e3) g) (DpAll.ex ((e.trans e2).trans e3) ds xs hl), hy H3, ss, sd, hj, hz, hn, q H3 (e2.trans e3)⟩⟩
end
end Bk
namespace Bk
open PySem PySem.Spec PyProof.Rows L2 Evl
/-! ### sorted(e, key=len), e a list of lists -/
section
variable {X : Cx} {pins : List (Addr × Obj)} {σ : L2.St} {H : Hp} {s : Shared}
theorem inv_same (I : Inv X pins σ H s) : ∃ m, s.heap.Ns X.env.locals m ∧ ∀ (h' : Heap) (tk : Nat), h'.Ns X.env.locals m → (∀ b u, b ≠ X.env.locals → s.heap.get? b = some u → h'.get? b = some u) → Inv X pins σ H { s with heap := h', toks := tk } := by
  obtain ⟨m, hn, hl⟩ := I.loc
  refine ⟨m, hn, fun h' tk hn' k => ?_⟩
  have cne := I.cne
  have lt : ∀ {b : Addr} {o : Obj}, X.s_0.heap.get? b = some o → b ≠ X.env.locals := fun e => Nat.ne_of_lt (Nat.lt_of_lt_of_le (Heap.lt_size e) I.ok.above)
  refine ⟨I.ok, I.os, I.bare, ⟨fun b o e n hb hx => k _ _ (lt e) (I.base.keep b o e n hb hx), fun b o e n hb hx => ?_, I.base.free, fun b o e hx => ?_, I.base.tups, I.base.frzs, I.base.tbls⟩, ⟨m, hn', fun j y v' e1 e2 e3 => ?_⟩, fun y c e => ?_, I.free, I.freeC, fun p hp => ?_, fun b ob e => ?_, I.len⟩
  · obtain ⟨sl, e1⟩ := I.base.slot b o e n hb hx
    exact ⟨sl, k _ _ (lt e) e1⟩
  · obtain ⟨o', e1⟩ := I.base.there b o e hx
    exact ⟨o', k _ _ (lt e) e1⟩
  · obtain ⟨u', r', q⟩ := hl j y v' e1 e2 e3
    refine ⟨u', r', ?_⟩
    rcases q with ⟨kk, e⟩ | ⟨kk, c, e, z⟩
    · exact .inl ⟨kk, e⟩
    · obtain ⟨oc, hoc, hd⟩ := z
      exact .inr ⟨kk, c, e, oc, k _ _ (cne y c e) hoc, hd⟩
  · obtain ⟨w', oc, hoc, hd⟩ := I.cell y c e
    exact ⟨w', oc, k _ _ (cne y c e) hoc, hd⟩
  · obtain ⟨e, n, ne, nf, d⟩ := I.pin p hp
    exact ⟨k _ _ ne e, n, ne, nf, d⟩
  · refine (I.hok b ob e).stay (fun c w' hc q => k c _ ?_ q) (fun _ q => q) fun _ _ q => q
    rintro rfl
    have hfree := I.free
    rcases hc with rfl | hc
    · rw [hfree] at e
      cases e
    · rw [hfree] at hc
      cases hc
def newsOf (h : Heap) (L : Addr) : List (Addr × Obj) := (List.range h.objs.size).filterMap fun b => if b = L then none else (h.get? b).map fun o => (b, o)
theorem mem_newsOf {h : Heap} {L b : Addr} {o : Obj} : (b, o) ∈ newsOf h L ↔ h.get? b = some o ∧ b ≠ L := by
  unfold newsOf
  rw [List.mem_filterMap]
  constructor
  · rintro ⟨c, _, e⟩
    by_cases hc : c = L
    · rw [if_pos hc] at e
      cases e
    · rw [if_neg hc] at e
      cases g : h.get? c with
      | none =>
        rw [g] at e
        cases e
      | some u =>
        rw [g] at e
        cases e
        exact ⟨g, hc⟩
  · rintro ⟨e, ne⟩
    refine ⟨b, List.mem_range.mpr (Heap.lt_size e), ?_⟩
    rw [if_neg ne, e]
    rfl
theorem empty_get (a : Addr) : ({} : Heap).get? a = none := by
  show (#[] : Array Obj)[a]? = none
  simp
theorem obj_there {P : Program} {w : World} {h : Heap} {a : Addr} {o : HO} (x : ObjOk P w H h a o) : ∃ u, h.get? a = some u := by
  cases o with
  | lst xs => obtain ⟨_, _, _, _, e⟩ := x; exact ⟨_, e⟩
  | tup xs => obtain ⟨_, _, _, ob, e, _⟩ := x; exact ⟨_, e⟩
  | dK kvs => obtain ⟨_, _, _, _, o, _, _, e, _⟩ := x; exact ⟨_, e⟩
  | dT kvs => obtain ⟨_, _, _, _, o, _, _, e, _⟩ := x; exact ⟨_, e⟩
  | set S n => obtain ⟨o, _, _, _, e, _⟩ := x; exact ⟨_, e⟩
  | ins C dx fs => obtain ⟨_, _, _, e, _⟩ := x; exact ⟨_, e⟩
  | own y => obtain ⟨_, e⟩ := x; exact ⟨_, e⟩
  | xd fs => obtain ⟨_, ⟨_, _, _, e, _⟩, _⟩ := x; exact ⟨_, e⟩
  | rng lo hi => obtain ⟨_, _, _, e⟩ := x; exact ⟨_, e⟩
  | frz ob u => obtain ⟨e, _⟩ := x; exact ⟨_, e⟩
  | tbl ps => exact ⟨_, show h.get? a = some _ from x⟩
  | met f y => exact ⟨_, show h.get? a = some _ from x⟩
  | ext φ => obtain ⟨_, ⟨_, e⟩, _⟩ := x; exact ⟨_, e⟩
/-- a list that nobody tracks is taken up -/
theorem adoptL {a : Addr} {xs : List V} {its : List Value} {n : Nat} (I : Inv X pins σ H s) (ha : s.heap.get? a = some (seqObj "list" its.toArray n)) (hz : xs.length ≤ sizeLine) (r : Vals xs its) (na : H a = none) (n0 : X.s_0.heap.get? a = none) (nL : a ≠ X.env.locals)
    (nP : ∀ p ∈ X.pn ++ pins, p.1 ≠ a) : Inv X pins σ (upd H a (.lst xs)) s := by
  have ne : ∀ {b : Addr} {o : HO}, H b = some o → b ≠ a := fun q => ne_of_none q na
  refine ⟨I.ok, I.os, I.bare, ⟨I.base.keep, I.base.slot, fun b o q n x => ?_, I.base.there, fun b xs q => ?_, fun b o u q => ?_, fun b ps q => ?_⟩, I.loc, I.cell, ?_, fun x c h => ?_, fun p hp => ?_, fun b o q => ?_, I.len⟩
  · rw [upd_ne fun z => by rw [z, n0] at q; cases q]
    exact I.base.free b o q n x
  · have r := I.base.tups b xs q
    rw [upd_ne (ne r)]
    exact r
  · have r := I.base.frzs b o u q
    rw [upd_ne (ne r)]
    exact r
  · obtain ⟨more, r⟩ := I.base.tbls b ps q
    exact ⟨more, by rw [upd_ne (ne r)]; exact r⟩
  · rw [upd_ne nL.symm]
    exact I.free
  · obtain ⟨v, o, ho, hv⟩ := I.cell x c h
    rw [upd_ne fun z => by
      rw [z, ha] at ho
      cases ho
      cases hv]
    exact I.freeC x c h
  · obtain ⟨p1, p2, p3⟩ := I.pin p hp
    exact ⟨p1, by rw [upd_ne (nP p hp)]; exact p2, p3⟩
  · by_cases c : b = a
    · subst c
      rw [upd_same] at q
      cases q
      exact ⟨hz, its, n, r, ha⟩
    · rw [upd_ne c] at q
      exact (I.hok b o q).stay (fun _ _ _ r => r) (fun e r => by rw [upd_ne (ne r)]; exact r) fun e xs r => by rw [upd_ne (ne r)]; exact r
theorem vals_refs : ∀ {as : List Addr} {us : List Value}, Vals (as.map V.ref) us → us = as.map Value.ref
  | [], _, r => by cases r; rfl
  | a :: as, _, r => by
    cases r with
    | cons x y =>
      obtain rfl : _ = Value.ref a := x
      rw [List.map_cons, vals_refs y]
theorem refs_vals : ∀ {as : List Addr}, Vals (as.map V.ref) (as.map Value.ref)
  | [] => .nil
  | a :: as => .cons rfl refs_vals
def adOf : Value → Addr
  | .ref a => a
  | _ => 0
end
def tSortLen (K : PySem.W.Frag) (te : TE) : TE := fun σ H Q => te σ H fun x H1 => ∃ (a : Addr) (as : List Addr) (ns : List Nat), x = .ref a ∧ SqL K H1 a (as.map V.ref) ∧ ns.length = as.length ∧
  (∀ (i : Nat) (b : Addr) (n : Nat), as[i]? = some b → ns[i]? = some n → ∃ xs, SqL K H1 b xs ∧ xs.length = n) ∧
  ∀ (ps : List (Int × Addr)) p, ps.Perm ((ns.map Int.ofNat).zip as) → ps.Pairwise (fun p q => p.1 ≤ q.1) → H1 p = none → Q (.ref p) (upd H1 p (.lst (ps.map fun q => V.ref q.2)))
section
variable {X : Cx} {K : PySem.W.Frag} {e : Expr} {te : TE} {p p2 kp pos : Pos}
theorem pe_sortLen (hX : X.K = K) (hex : X.ex = []) (hg : Gl X "sorted") (hm : X.mg "sorted" = none) (hg2 : Gl X "len") (hm2 : X.mg "len" = none) (he : PE X e te)
    (hst : starEach [e] X.env = (false, eval e X.env) :: starEach [] X.env := by rfl) (hbk : backTo pos (starEach [e] X.env) = (false, eval e X.env) :: backTo pos (starEach [] X.env) := by rfl) (hpl : (backTo pos (starEach [e] X.env)).any (·.1) = false := by rfl) :
    PE X (.Call (.Name "sorted" p) [e] [⟨some "key", .Name "len" p2, kp⟩] pos) (tSortLen K te) := by
  subst hX
  refine ⟨fun pins s σ H Q I h => ?_⟩
  refine wpAny_Call_Name_kw (ld_blt I hg hm (u := .builtin "sorted") rfl ?_ (by decide) (by decide))
  have ha := (pa_cons he pa_nil hst).run pos pins s σ H (fun vs H1 => match vs with
    | [x] => ∃ (a : Addr) (as : List Addr) (ns : List Nat), x = .ref a ∧ SqL X.K H1 a (as.map V.ref) ∧ ns.length = as.length ∧
    (∀ (i : Nat) (b : Addr) (n : Nat), as[i]? = some b → ns[i]? = some n → ∃ xs, SqL X.K H1 b xs ∧ xs.length = n) ∧
    ∀ (ps : List (Int × Addr)) p, ps.Perm ((ns.map Int.ofNat).zip as) → ps.Pairwise (fun p q => p.1 ≤ q.1) → H1 p = none → Q (.ref p) (upd H1 p (.lst (ps.map fun q => V.ref q.2)))
    | _ => False) I h
  refine PyProof.Rows.callWith_kw (thn ha fun us s1 ⟨vs, H1, I1, r1, q0⟩ => ?_) hbk hpl rfl rfl
  obtain ⟨x, rfl, a, as, ns, ex, hs, hl, hb, q⟩ : ∃ x, vs = [x] ∧ ∃ (a : Addr) (as : List Addr) (ns : List Nat), x = .ref a ∧ SqL X.K H1 a (as.map V.ref) ∧ ns.length = as.length ∧ (∀ (i : Nat) (b : Addr) (n : Nat), as[i]? = some b → ns[i]? = some n → ∃ xs, SqL X.K H1 b xs ∧ xs.length = n) ∧ ∀ (ps : List (Int × Addr)) p, ps.Perm ((ns.map Int.ofNat).zip as) → ps.Pairwise (fun p q => p.1 ≤ q.1) → H1 p = none → Q (.ref p) (upd H1 p (.lst (ps.map fun q => V.ref q.2))) := by
    match vs, q0 with
    | [x], q0 => exact ⟨x, rfl, q0⟩
  subst ex
  obtain rfl := Vals.ref1 r1
  show wpAny _ _ (evalAll [do let v ← eval (.Name "len" p2) X.env; standAt pos; pure v]) _ _ _
  refine wpAny_evalAll_cons (wpAny_bind (ld_blt I1 hg2 hm2 (u := .builtin "len") rfl (wpAny_bind (wpAny_standAt (wpAny_pure ?_))) (by decide) (by decide)))
  refine wpAny_evalAll_nil ?_
  show wpAny _ _ (call (.builtin "sorted") [.ref a] [(Str.ofString "key", .builtin "len")]) _ _ _
  obtain ⟨its, rv, pl, hz⟩ := I1.list hs
  obtain ⟨m, hn, keep⟩ := inv_same I1
  have hlen := rv.length
  rw [List.length_map] at hlen hz
  have F0 : Fr {} X.env.locals s1.heap m := ⟨hn, fun b o e => (by rw [empty_get] at e; cases e), Nat.zero_le _⟩
  have N0 : News {} X.env.locals s1.heap (newsOf s1.heap X.env.locals) := fun q hq => by
    obtain ⟨b, o⟩ := q
    obtain ⟨h1, h2⟩ := mem_newsOf.mp hq
    exact ⟨h1, h2, empty_get _⟩
  have item : ∀ (i : Nat) (v : Value), its[i]? = some v → ∃ b, as[i]? = some b ∧ v = .ref b := fun i v hv => by
    have hi := (List.getElem?_eq_some_iff.mp hv).1
    have ga : as[i]? = some (as[i]'(by omega)) := List.getElem?_eq_getElem _
    obtain ⟨u, hu, ru⟩ := rv.get (i := i) (x := .ref (as[i]'(by omega))) (by rw [List.getElem?_map, ga]; rfl)
    rw [hv] at hu
    cases hu
    exact ⟨_, ga, ru⟩
  refine ksk_sortedSt (kz := ns.map Int.ofNat) (b := false) F0 N0 pl.isList (by rw [List.length_map]; omega) (by omega) (ksk_s1 _ _) (fun _ => ksk_l1 _ _) (fun x => ksk_t4 _ _) (fun i v k hv hk h tk own F' N' => ?_) fun D h' tk out c F' N' l1 ko => ?_
  · obtain ⟨b, gb, rfl⟩ := item i v hv
    rw [List.getElem?_map] at hk
    cases gn : ns[i]? with
    | none =>
      rw [gn] at hk
      cases hk
    | some n =>
      rw [gn] at hk
      cases hk
      obtain ⟨xs, hxs, lx⟩ := hb i b n gb gn
      obtain ⟨jts, rj, ⟨o, nn, g, c1, c2, c3⟩, hzj⟩ := I1.list hxs
      have nb : b ≠ X.env.locals := by
        rcases hxs with hh | ⟨ob, _, _, hk, _⟩
        · rintro rfl
          rcases hh with hh | ⟨_, hh⟩
          all_goals (rw [I1.free] at hh; cases hh)
        · exact Nat.ne_of_lt (Nat.lt_of_lt_of_le (Heap.lt_size (I1.ok.bs _ _ (I1.ok.mod.kin _ _ hk)).1) I1.ok.above)
      have g' : h.get? b = some o := (N' (b, o) (List.mem_append_left _ (mem_newsOf.mpr ⟨g, nb⟩))).1
      have il : Heap.IsList h b jts.toArray := ⟨o, g', c1, nn, c3⟩
      have hn63 := line63
      have lj := rj.length
      refine Calls.call_len_list (s := { s1 with heap := h, toks := tk }) il (by simp only [List.size_toArray]; omega) ?_
      refine ⟨h, _, tk + 1, rfl, ?_, F', N'⟩
      show Value.int ((jts.toArray.size : Nat) : Int) (tk + 1) = _
      rw [List.size_toArray, ← lj, lx]
      rfl
  · obtain ⟨ps, hp, ho, hw, _⟩ := ko
    have ei := vals_refs rv
    subst ei
    have nD := N' (D, seqObj "list" out c) (List.mem_cons_self ..)
    have I2 := keep h' tk F'.ns fun b u ne e => (N' (b, u) (List.mem_cons_of_mem _ (mem_newsOf.mpr ⟨e, ne⟩))).1
    have old : ∀ {b : Addr} {o : Obj}, s1.heap.get? b = some o → b ≠ D := fun {b o} e z => by
      by_cases hb : b = X.env.locals
      · exact nD.2.1 (z.symm.trans hb)
      · have := l1 _ (mem_newsOf.mpr ⟨e, hb⟩)
        rw [z] at this
        exact absurd this (Nat.lt_irrefl _)
    have na : H1 D = none := by
      cases g : H1 D with
      | none => rfl
      | some o =>
        obtain ⟨u, hu⟩ := obj_there (I1.hok D o g)
        exact absurd rfl (old hu)
    have n0 : X.s_0.heap.get? D = none := by
      cases g : X.s_0.heap.get? D with
      | none => rfl
      | some o =>
        obtain ⟨u, hu⟩ := I1.base.there D o g (by rw [hex]; exact fun z => nomatch z)
        exact absurd rfl (old hu)
    have snd : ∀ q ∈ ps, ∃ b, q.2 = .ref b := fun q hq => by
      have := hp.mem_iff.mp hq
      have := (List.of_mem_zip this).2
      obtain ⟨b, _, e⟩ := List.mem_map.mp this
      exact ⟨b, e.symm⟩
    have eo : out = ((ps.map fun q => (q.1, adOf q.2)).map fun q => Value.ref q.2).toArray := by
      rw [← Array.toArray_toList (xs := out), ho, List.map_map]
      congr 1
      refine List.map_congr_left fun q hq => ?_
      obtain ⟨b, e⟩ := snd q hq
      show q.2 = Value.ref (adOf q.2)
      rw [e]
      rfl
    have pz : (ps.map fun q => (q.1, adOf q.2)).Perm ((ns.map Int.ofNat).zip as) := by
      refine (hp.map _).trans (List.Perm.of_eq ?_)
      rw [List.zip_map_right, List.map_map]
      exact List.map_id' _
    have lp : ps.length = as.length := by
      have := hp.length_eq
      rw [List.length_zip, List.length_map, List.length_map] at this
      omega
    have I3 := adoptL (xs := (ps.map fun q => (q.1, adOf q.2)).map fun q => V.ref q.2) (its := (ps.map fun q => (q.1, adOf q.2)).map fun q => Value.ref q.2) I2 (by rw [← eo]; exact nD.1) (by rw [List.length_map, List.length_map]; omega) (by
      have := refs_vals (as := (ps.map fun q => (q.1, adOf q.2)).map fun q => q.2)
      rw [List.map_map, List.map_map (g := Value.ref)] at this
      exact this) na n0 nD.2.1 (fun p hp z => by
      obtain ⟨e, _⟩ := I1.pin p hp
      exact old e z)
    exact ⟨.ref D, _, I3, rfl, q _ D pz (by
      rw [List.pairwise_map]
      exact hw) na⟩
end
end Bk
namespace Bk
open PySem PySem.Spec PyProof.Rows L2 Evl
/-! ### list(d.items()) -/
section
variable {X : Cx} {pins : List (Addr × Obj)} {σ : L2.St} {H : Hp} {s : Shared}
/-- an object that nobody tracks is taken up -/
theorem adoptX {a : Addr} {u : HO} {o0 : Obj} (I : Inv X pins σ H s) (ha : s.heap.get? a = some o0) (hc : ∀ v, o0.data ≠ .cell v) (ok : ObjOk X.prog X.w (upd H a u) s.heap a u) (na : H a = none) (n0 : X.s_0.heap.get? a = none) (nL : a ≠ X.env.locals)
    (nP : ∀ p ∈ X.pn ++ pins, p.1 ≠ a) : Inv X pins σ (upd H a u) s := by
  have ne : ∀ {b : Addr} {o : HO}, H b = some o → b ≠ a := fun q => ne_of_none q na
  refine ⟨I.ok, I.os, I.bare, ⟨I.base.keep, I.base.slot, fun b o q n x => ?_, I.base.there, fun b xs q => ?_, fun b o u q => ?_, fun b ps q => ?_⟩, I.loc, I.cell, ?_, fun x c h => ?_, fun p hp => ?_, fun b o q => ?_, I.len⟩
  · rw [upd_ne fun z => by rw [z, n0] at q; cases q]
    exact I.base.free b o q n x
  · have r := I.base.tups b xs q
    rw [upd_ne (ne r)]
    exact r
  · have r := I.base.frzs b o u q
    rw [upd_ne (ne r)]
    exact r
  · obtain ⟨more, r⟩ := I.base.tbls b ps q
    exact ⟨more, by rw [upd_ne (ne r)]; exact r⟩
  · rw [upd_ne nL.symm]
    exact I.free
  · obtain ⟨v, o, ho, hv⟩ := I.cell x c h
    rw [upd_ne fun z => by
      rw [z, ha] at ho
      cases ho
      exact hc _ hv]
    exact I.freeC x c h
  · obtain ⟨p1, p2, p3⟩ := I.pin p hp
    exact ⟨p1, by rw [upd_ne (nP p hp)]; exact p2, p3⟩
  · by_cases c : b = a
    · subst c
      rw [upd_same] at q
      cases q
      exact ok
    · rw [upd_ne c] at q
      exact (I.hok b o q).stay (fun _ _ _ r => r) (fun e r => by rw [upd_ne (ne r)]; exact r) fun e xs r => by rw [upd_ne (ne r)]; exact r
/-- new pairs beyond a bound are taken up, one by one -/
theorem adoptPairs {n : Nat} (hs : X.s_0.heap.objs.size ≤ n) (hL : X.env.locals < n) (hP : ∀ p ∈ X.pn ++ pins, p.1 < n) : ∀ (ts : List Addr) (es : List (V × V)) (H : Hp), Inv X pins σ H s → (∀ a, n ≤ a → H a = none ∨ a ∉ ts) → ts.length = es.length → ts.Nodup → (∀ a ∈ ts, n ≤ a) →
    (∀ (i : Nat) a e, ts[i]? = some a → es[i]? = some e → ∃ u v, RelV e.1 u ∧ RelV e.2 v ∧ s.heap.get? a = some { cls := .type "tuple", data := .seq #[u, v] }) →
    ∃ H', Inv X pins σ H' s ∧ (∀ a, a ∉ ts → H' a = H a) ∧ ∀ (i : Nat) a e, ts[i]? = some a → es[i]? = some e → H' a = some (.tup [e.1, e.2])
  | [], es, H, I, _, _, _, _, _ => ⟨H, I, fun _ _ => rfl, fun i a e h => nomatch h⟩
  | t :: ts, [], H, I, _, l, _, _, _ => by cases l
  | t :: ts, e :: es, H, I, fr, l, nd, up, at' => by
    obtain ⟨u, v, ru, rv, g⟩ := at' 0 t e rfl rfl
    have nt := up t (List.mem_cons_self ..)
    have na : H t = none := (fr t nt).resolve_right fun z => z (List.mem_cons_self ..)
    have nd' := List.nodup_cons.mp nd
    have I1 := adoptX (u := .tup [e.1, e.2]) I g (fun v z => by cases z) ⟨by show 2 ≤ sizeLine; decide, [u, v], .cons ru (.cons rv .nil), ⟨_, g, rfl, _, rfl⟩⟩ na (by
      cases k : X.s_0.heap.get? t with
      | none => rfl
      | some o => exact absurd (Nat.lt_of_lt_of_le (Heap.lt_size k) (Nat.le_trans hs nt)) (Nat.lt_irrefl _)) (Nat.ne_of_gt (Nat.lt_of_lt_of_le hL nt)) (fun p hp => Nat.ne_of_lt (Nat.lt_of_lt_of_le (hP p hp) nt))
    obtain ⟨H', I', h1, h2⟩ := adoptPairs hs hL hP ts es _ I1 (fun a ha => by
      by_cases c : a = t
      · right
        rw [c]
        exact nd'.1
      · rw [upd_ne c]
        rcases fr a ha with z | z
        · exact .inl z
        · exact .inr fun m => z (List.mem_cons_of_mem _ m)) (by simpa using l) nd'.2 (fun a ha => up a (List.mem_cons_of_mem _ ha)) fun i a e' x y => at' (i + 1) a e' x y
    refine ⟨H', I', fun a ha => ?_, fun i a e' x y => ?_⟩
    · rw [h1 a fun m => ha (List.mem_cons_of_mem _ m), upd_ne fun z => ha (by rw [z]; exact List.mem_cons_self ..)]
    · cases i with
      | zero =>
        cases x
        cases y
        rw [h1 t nd'.1, upd_same]
      | succ i => exact h2 i a e' x y
end
def tListItems (td : TE) : TE := fun σ H Q => td σ H fun x H1 => ∃ (d : Addr) (kvs : List (Key × V)), x = .ref d ∧ H1 d = some (.dK kvs) ∧ ∀ (p : Addr) (ts : List Addr) (H2 : Hp), H1 p = none → Ex H1 H2 → H2 p = some (.lst (ts.map V.ref)) → ts.length = kvs.length →
  (∀ (i : Nat) (t : Addr) (e : Key × V), ts[i]? = some t → kvs[i]? = some e → H2 t = some (.tup [kV e.1, e.2])) → (∀ t ∈ ts, H1 t = none) → Q (.ref p) H2
section
variable {X : Cx} {e : Expr} {td : TE} {p apos cpos pos : Pos}
theorem pe_listItems (hex : X.calm = true) (hg : Gl X "list") (hm : X.mg "list" = none) (he : PE X e td) (hbase : attributeBase e "items" X.env (eval e X.env) = eval e X.env := by rfl) (hline : (apos.endLine == cpos.line) = true := by rfl)
    (hst : starEach [.Call (.Attribute e "items" apos) [] [] cpos] X.env = (false, eval (.Call (.Attribute e "items" apos) [] [] cpos) X.env) :: starEach [] X.env := by rfl) :
    PE X (.Call (.Name "list" p) [.Call (.Attribute e "items" apos) [] [] cpos] [] pos) (tListItems td) := by
  refine ⟨fun pins s σ H Q I h => ?_⟩
  refine wpAny_Call_Name_kw (ld_blt I hg hm (u := .type "list") rfl ?_ (by decide) (by decide))
  refine PyProof.Rows.callWith_type1 ?_ hst rfl
  rw [hst]
  refine Calls.spliced_cons ?_
  refine wpAny_Call_method (T := "dict") (id := "dict.items") hbase rfl hline PySem.F.plainAttrs_dict PySem.F.slot_dict_items PySem.F.type_dict_items (thn (he.run pins s σ H _ I h) fun u s1 ⟨x, H1, I1, rx, d, kvs, ex, hd, q⟩ => ?_)
  subst ex
  obtain rfl : u = Value.ref d := rx
  obtain ⟨hz, hsys, vs, kv, dd⟩ := dk_of I1.hok hd
  refine ⟨dd.typeIs, dd.mapOf.noDict, ?_⟩
  show wpAny _ _ (callWith cpos (.builtin "dict.items") [.ref d] [] []) _ X.xe s1
  refine method_meetsIn PySem.F.slot_dict_items PySem.F.entry_dict_items rfl (PySem.evalArgs_none ⟨rfl, dd.typeIs, PySem.F.args_dict_items_1 _, _, meets_dict_items (mixKind X.prog X.w) d hsys, ⟨vs, dd⟩, ?_⟩)
  refine Calls.spliced_nil ?_
  have I2 : Inv X pins σ H1 { s1 with heap := s1.heap.push { cls := .type "dict_items", data := .fields #[.ref d] } } := I1.kept (t' := s1.toks) fun b ob q => Heap.get?_push_of_some _ q
  have hl : kvs.length = vs.length := Paired.length kv
  obtain ⟨ep, da⟩ := (dd.push { cls := .type "dict_items", data := .fields #[.ref d] }).dictAt
  refine PySem.W.kdx_call (knd := mixKind X.prog X.w) (kvs := vs) (ep := ep) (I2.ok.hd hex) ⟨_, Heap.get?_push_size _ rfl, rfl, rfl⟩ da (by rw [← hl]; exact hz) fun h' tk acc c as hk hS hla hG hacc => ?_
  have I3 : Inv X pins σ H1 { s1 with heap := h', toks := tk } := I2.kept hk
  generalize hsz : (s1.heap.push { cls := .type "dict_items", data := .fields #[.ref d] }).objs.size = S at *
  have hS0 : s1.heap.objs.size ≤ S := by rw [← hsz, size_push']; exact Nat.le_succ _
  have hloc : X.env.locals < S := by
    obtain ⟨m, hn, _⟩ := I1.loc
    exact Nat.lt_of_lt_of_le hn.lt hS0
  have hab : X.s_0.heap.objs.size ≤ S := Nat.le_trans I1.ok.above (Nat.le_of_lt hloc)
  have hpin : ∀ p ∈ X.pn ++ pins, p.1 < S := fun p hp => Nat.lt_of_lt_of_le (Heap.lt_size (I1.pin p hp).1) hS0
  have fr : ∀ a, S ≤ a → H1 a = none := fun a ha => I1.hok.fresh (Nat.le_trans hS0 ha)
  have rise := hG.rise
  have above := hG.above
  obtain ⟨H', I4, k1, k2⟩ := adoptPairs (s := { s1 with heap := h', toks := tk }) hab hloc hpin as (kvs.map fun e => (kV e.1, e.2)) H1 I3 (fun a ha => .inl (fr a ha)) (by rw [List.length_map, hla, hl]) (rise.imp fun h => Nat.ne_of_lt h) (fun a ha => Nat.le_of_lt (above a ha)) (fun i a e ga ge => by
    rw [List.getElem?_map] at ge
    cases gk : kvs[i]? with
    | none =>
      rw [gk] at ge
      cases ge
    | some z =>
      obtain ⟨k, v⟩ := z
      rw [gk] at ge
      cases ge
      obtain ⟨key, k', x, hv', hkey, ht⟩ := hG.pairs i a ga
      obtain ⟨u, hu, ru⟩ := kv_get kv gk
      rw [hu] at hv'
      cases hv'
      exact ⟨key, _, relV_key (show keyIs _ key = true from hkey), ru, ht⟩)
  have nS : S ∉ as := fun m => Nat.lt_irrefl _ (above S m)
  have I5 := adoptL (xs := as.map V.ref) (its := as.map Value.ref) (n := c) I4 (by
    rw [← hacc, Array.toArray_toList]
    exact hS) (by rw [List.length_map, hla, ← hl]; exact hz) refs_vals (by rw [k1 S nS]; exact fr S (Nat.le_refl _)) (by
      cases k : X.s_0.heap.get? S with
      | none => rfl
      | some o => exact absurd (Nat.lt_of_lt_of_le (Heap.lt_size k) hab) (Nat.lt_irrefl _)) (Nat.ne_of_gt hloc) (fun p hp => Nat.ne_of_lt (hpin p hp))
  refine ⟨.ref S, _, I5, rfl, q S as _ (fr S (Nat.le_refl _)) (fun a u hu => ?_) upd_same (by rw [hla, hl]) (fun i t e gt ge => ?_) (fun t ht => fr t (Nat.le_of_lt (above t ht)))⟩
  · have na : a ∉ as := fun m => by
      rw [fr a (Nat.le_of_lt (above a m))] at hu
      cases hu
    have nz : a ≠ S := fun z => by
      rw [z, fr S (Nat.le_refl _)] at hu
      cases hu
    rw [upd_ne nz, k1 a na]
    exact hu
  · rw [upd_ne fun z => nS (by rw [← z]; exact List.mem_of_getElem? gt)]
    exact k2 i t (kV e.1, e.2) gt (by rw [List.getElem?_map, ge]; rfl)
/-! ### min(xs, default=None) of an empty list -/
def rMinNone (K : PySem.W.Frag) : List V → List V → Hp → VK → Prop := fun vs zs H Q => ∃ (a : Addr), vs = [V.ref a] ∧ zs = [.non] ∧ SqL K H a [] ∧ Q .non H
theorem cr_minNone {K : PySem.W.Frag} (hX : X.K = K) (hc : X.calm = true) (hu : X.A.units + 1 < cLine) : CallRK X (.builtin "min") [Str.ofString "default"] (rMinNone K) := by
  subst hX
  intro pins s σ H vs zs us ws Q I r rz h
  obtain ⟨a, rfl, rfl, hs, q⟩ := h
  obtain rfl := Vals.ref1 r
  obtain ⟨w1, rfl, e1⟩ := vals1 rz
  obtain rfl : w1 = Value.none := e1
  obtain ⟨its, rv, hl, _⟩ := I.list hs
  cases rv
  exact PySem.W.min_list_default (xs := []) (as := []) (I.ok.hd hc) hl.isList .nil ⟨(fun _ h => nomatch h), (fun _ h => nomatch h)⟩ (by show _ + 1 + 0 < _; omega) (fun _ h' tk hk => ⟨.non, H, I.kept hk, rfl, q⟩) fun y ys i v h' tk bs e => nomatch e
/-! ### len(d) -/
def rLenD : List V → Hp → VK → Prop := fun xs H Q => ∃ (a : Addr) (kvs : List (Key × V)), xs = [V.ref a] ∧ Rd H a (.dK kvs) ∧ Q (.int (kvs.length : Nat)) H
theorem call_lenD : CallR X (.builtin "len") rLenD := by
  intro pins s σ H xs us Q I r h
  obtain ⟨a, kvs, rfl, hd, q⟩ := h
  obtain rfl := Vals.ref1 r
  exact d_len I hd fun t s' I' => ⟨.int _, H, I', ⟨t, rfl⟩, q⟩
end
/-! ### dicts walked -/
section
variable {K : PySem.W.Frag} {σ : L2.St} {H : Hp} {te td tk tv : TE} {tt : TT} {d : Addr} {kvs : List (Key × V)}
/-- H with the dict at d locked -/
def frz (H : Hp) (d : Addr) (od : Obj) (kvs : List (Key × V)) : Hp := upd H d (.frz od (.dK kvs))
theorem unfrz {H H' : Hp} {od : Obj} (g : H d = some (.dK kvs)) (e : Ex (frz H d od kvs) H') : Ex H (upd H' d (.dK kvs)) := fun a u h => by
  by_cases c : a = d
  · subst c
    rw [g] at h
    cases h
    exact upd_same
  · rw [upd_ne c]
    exact e a u (by unfold frz; rw [upd_ne c]; exact h)
theorem ix_pairK {i : Nat} {e : Key × V} {x y : V} (h : kvs[i]? = some e) (hx : (kvs[i]?.map fun kv => kV kv.1) = some x) (hy : (kvs[i]?.map Prod.snd) = some y) : x = kV e.1 ∧ y = e.2 := by
  rw [h] at hx hy
  cases hx
  cases hy
  exact ⟨rfl, rfl⟩
/-- [e for k, v in d.items() if ..] of pure parts -/
theorem el_lcIt {i j m : Nat} {ws : List Nat} (f : Nat → Bool) (v : Nat → V) (hd : σ[m]? = some (some (.ref d))) (g : H d = some (.dK kvs)) (hz : kvs.length ≤ 40000) (hw : ∀ x y, wipe (((wipe σ ws).set i (some x)).set j (some y)) ws = wipe σ ws)
    (ht : ∀ (n : Nat) e H1, kvs[n]? = some e → EvT tt (((wipe σ ws).set i (some (kV e.1))).set j (some e.2)) H1 (f n)) (he : ∀ (n : Nat) e H1, kvs[n]? = some e → f n = true → Ev te (((wipe σ ws).set i (some (kV e.1))).set j (some e.2)) H1 (v n)) :
    EvL (tLockE (tLc (iItems (tVar m)) (g2 K i j) tt te ws)) σ H (given kvs.length f v) := fun H1 e Q q => ⟨d, .dK kvs, e _ _ g, True.intro, fun od => ⟨.ref d, hd, d, od, kvs, rfl, upd_same, fun Dl hD => by
    have hDd : Dl ≠ d := fun z => by
      rw [z, upd_same] at hD
      cases hD
    refine lc_it (walk_items (d := d) (o := od) (kvs := kvs)) (fun n H' => Cw (frz H1 d od kvs) f v Dl n H') ⟨hD, Ex.new hD, upd_same⟩ (fun n H' _ p => p.2.1 _ _ upd_same) (fun n x H' H'' hn p y => ?_) (fun H' p => ⟨p.2.1 _ _ upd_same, q Dl _ ?_ (unfrz (e _ _ g) p.2.1) ?_⟩)
    · obtain ⟨T, x1, y1, rfl, hT, rfl, hx, hy⟩ := y
      have gn := List.getElem?_eq_getElem hn
      obtain ⟨rfl, rfl⟩ := ix_pairK gn hx hy
      refine g2_go upd_same ⟨hw _ _, ?_⟩
      obtain ⟨p1, p2, p3⟩ := p
      have nT : Dl ≠ T := fun z => by
        rw [← z, p3] at hT
        cases hT
      exact cw_turn (H := frz H1 d od kvs) ⟨p1, p2.trans (Ex.new hT), by rw [upd_ne nT]; exact p3⟩ (by omega) (ht n _ _ gn) (fun hf => he n _ _ gn hf)
    · rw [upd_ne hDd] at hD
      exact hD
    · rw [upd_ne hDd]
      exact p.2.2⟩⟩
/-- [e for k in d] of pure parts -/
theorem el_lcKy {i m : Nat} {ws : List Nat} (f : Nat → Bool) (v : Nat → V) (hd : σ[m]? = some (some (.ref d))) (g : H d = some (.dK kvs)) (hz : kvs.length ≤ 40000) (hw : ∀ x, wipe ((wipe σ ws).set i (some x)) ws = wipe σ ws)
    (ht : ∀ (n : Nat) e H1, kvs[n]? = some e → EvT tt ((wipe σ ws).set i (some (kV e.1))) H1 (f n)) (he : ∀ (n : Nat) e H1, kvs[n]? = some e → f n = true → Ev te ((wipe σ ws).set i (some (kV e.1))) H1 (v n)) :
    EvL (tLockE (tLc (iKeys (tVar m)) (gName i) tt te ws)) σ H (given kvs.length f v) := fun H1 e Q q => ⟨d, .dK kvs, e _ _ g, True.intro, fun od => ⟨.ref d, hd, d, od, rfl, .inl ⟨kvs, upd_same, fun Dl hD => by
    have hDd : Dl ≠ d := fun z => by
      rw [z, upd_same] at hD
      cases hD
    refine lc_it (walk_keys (d := d) (o := od) (kvs := kvs)) (fun n H' => Cw (frz H1 d od kvs) f v Dl n H') ⟨hD, Ex.new hD, upd_same⟩ (fun n H' _ p => p.2.1 _ _ upd_same) (fun n x H' H'' hn p y => ?_) (fun H' p => ⟨p.2.1 _ _ upd_same, q Dl _ ?_ (unfrz (e _ _ g) p.2.1) ?_⟩)
    · obtain ⟨rfl, k, v1, gk, rfl⟩ := y
      exact ⟨hw _, cw_turn (H := frz H1 d od kvs) p (by omega) (ht n _ _ gk) (fun hf => he n _ _ gk hf)⟩
    · rw [upd_ne hDd] at hD
      exact hD
    · rw [upd_ne hDd]
      exact p.2.2⟩⟩⟩
def RetDk (kvs : List (Key × V)) (H : Hp) (Q : VK) : Prop := ∀ p H2, H p = none → Ex H H2 → H2 p = some (.dK kvs) → Q (.ref p) H2
def EvDk (te : TE) (σ : L2.St) (H : Hp) (kvs : List (Key × V)) : Prop := ∀ H1, Ex H H1 → ∀ Q : VK, RetDk kvs H1 Q → te σ H1 Q
def SpDk (sp : Sp) (vs : List V) (H : Hp) (kvs : List (Key × V)) : Prop := ∀ H1, Ex H H1 → ∀ Q : VK, RetDk kvs H1 Q → ∀ E : XK, sp vs H1 Q E
theorem dc_it {J : It} {n : Nat} {G : Hp → Prop} {Y : Nat → Hp → V → Hp → Prop} (w : Walk J n G Y) {g : TG} {ws : List Nat} {H1 : Hp} {D : Addr} {Qd : Hp → Prop} (Pv : Nat → Hp → Prop) (h0 : Pv 0 (upd H1 D (.dK []))) (hG : ∀ i H, i ≤ n → Pv i H → G H)
    (hs : ∀ i x H H', i < n → Pv i H → Y i H x H' → g x (wipe σ ws) H' fun σ2 H2 => wipe σ2 ws = wipe σ ws ∧ tt σ2 H2 fun b H3 =>
      if b = true then tk σ2 H3 fun y H4 => tv σ2 H4 fun z H5 => ∃ kvs k, y = kV k ∧ H5 D = some (.dK kvs) ∧ kvs.length < sizeLine ∧ Pv (i + 1) (upd H5 D (.dK (putK kvs k z))) else Pv (i + 1) H3) (hd : ∀ H, Pv n H → Qd H) :
    ∃ W : Nat → Nat → Hp → Prop, (∃ m, W 0 m (upd H1 D (.dK []))) ∧ ∀ i m H, W i m H →
      (J.stop i H ∧ Qd H) ∨ (J.go i H ∧ ∃ Nx : Hp → Prop, (∀ H', Nx H' → ∃ m', m' < m ∧ W (i + 1) m' H') ∧ ∀ x H', J.yld i H x H' → g x (wipe σ ws) H' fun σ2 H2 => wipe σ2 ws = wipe σ ws ∧ tt σ2 H2 fun b H3 =>
        if b = true then tk σ2 H3 fun y H4 => tv σ2 H4 fun z H5 => ∃ kvs k, y = kV k ∧ H5 D = some (.dK kvs) ∧ kvs.length < sizeLine ∧ Nx (upd H5 D (.dK (putK kvs k z))) else Nx H3) := by
  refine ⟨fun i m H => m = n - i ∧ i ≤ n ∧ Pv i H, ⟨n, by simp, Nat.zero_le _, h0⟩, ?_⟩
  rintro i m H ⟨rfl, hi, p⟩
  have q := hG i H hi p
  by_cases hlt : i < n
  · refine .inr ⟨w.goes i H hlt q, Pv (i + 1), fun H' p' => ⟨n - (i + 1), by omega, rfl, hlt, p'⟩, fun x H' y => hs i x H H' hlt p (w.yields i H x H' hlt q y)⟩
  · have e : i = n := by omega
    subst e
    exact .inl ⟨w.stops H q, hd H p⟩
theorem valV_no {l : List (Key × V)} {k : Key} (h : ∀ e ∈ l, e.1 ≠ k) : valV l k = none := by
  induction l with
  | nil => rfl
  | cons a l ih =>
    rw [valV_neg (h a (List.mem_cons_self ..))]
    exact ih fun e he => h e (List.mem_cons_of_mem _ he)
theorem valV_mem {l : List (Key × V)} {k : Key} {v : V} (h : valV l k = some v) : (k, v) ∈ l := by
  induction l with
  | nil => cases h
  | cons a l ih =>
    by_cases c : a.1 = k
    · rw [valV_pos c] at h
      cases h
      rw [← c]
      exact List.mem_cons_self ..
    · rw [valV_neg c] at h
      exact List.mem_cons_of_mem _ (ih h)
/-- {k: v for k, v in d.items() if ..} -/
theorem dk_dcIt {i j m : Nat} {ws : List Nat} (p : Key × V → Bool) (hd : σ[m]? = some (some (.ref d))) (g : H d = some (.dK kvs)) (nd : (kvs.map (·.1)).Nodup) (hz : kvs.length ≤ 40000) (hw : ∀ x y, wipe (((wipe σ ws).set i (some x)).set j (some y)) ws = wipe σ ws)
    (ht : ∀ (e : Key × V) H1, e ∈ kvs → EvT tt (((wipe σ ws).set i (some (kV e.1))).set j (some e.2)) H1 (p e)) (hk : ∀ (e : Key × V) H1, Ev tk (((wipe σ ws).set i (some (kV e.1))).set j (some e.2)) H1 (kV e.1)) (hv : ∀ (e : Key × V) H1, Ev tv (((wipe σ ws).set i (some (kV e.1))).set j (some e.2)) H1 e.2) :
    EvDk (tLockE (tDc (iItems (tVar m)) (g2 K i j) tt tk tv ws)) σ H (kvs.filter p) := fun H1 e Q q => ⟨d, .dK kvs, e _ _ g, True.intro, fun od => ⟨.ref d, hd, d, od, kvs, rfl, upd_same, fun Dl hD => by
    have hDd : Dl ≠ d := fun z => by
      rw [z, upd_same] at hD
      cases hD
    refine dc_it (walk_items (d := d) (o := od) (kvs := kvs)) (fun n H' => frz H1 d od kvs Dl = none ∧ Ex (frz H1 d od kvs) H' ∧ H' Dl = some (.dK ((kvs.take n).filter p))) ⟨hD, Ex.new hD, upd_same⟩ (fun n H' _ p => p.2.1 _ _ upd_same) (fun n x H' H'' hn pp y => ?_) (fun H' pp => ⟨pp.2.1 _ _ upd_same, q Dl _ ?_ (unfrz (e _ _ g) pp.2.1) ?_⟩)
    · obtain ⟨T, x1, y1, rfl, hT, rfl, hx, hy⟩ := y
      have gn := List.getElem?_eq_getElem hn
      obtain ⟨rfl, rfl⟩ := ix_pairK gn hx hy
      have mn := List.getElem_mem hn
      have ne : ∀ e ∈ kvs.take n, e.1 ≠ (kvs[n]).1 := fun e he z => by
        obtain ⟨t, ht', et⟩ := List.getElem_of_mem he
        rw [List.length_take] at ht'
        have e1 : kvs[t]? = some e := by
          rw [← et, List.getElem_take]
          exact List.getElem?_eq_getElem (by omega)
        have a : (kvs.map (·.1))[t]? = some e.1 := by rw [List.getElem?_map, e1]; rfl
        have b : (kvs.map (·.1))[n]? = some e.1 := by rw [List.getElem?_map, gn, z]; rfl
        have := (List.getElem?_inj (by rw [List.length_map]; omega) nd).mp (a.trans b.symm)
        omega
      have ts : kvs.take (n + 1) = kvs.take n ++ [kvs[n]] := by rw [List.take_succ, gn]; rfl
      generalize kvs[n] = ee at *
      refine g2_go upd_same ⟨hw _ _, ?_⟩
      obtain ⟨p1, p2, p3⟩ := pp
      have nT : Dl ≠ T := fun z => by
        rw [← z, p3] at hT
        cases hT
      have p3' : upd H' T (.tup [kV ee.1, ee.2]) Dl = some (.dK ((kvs.take n).filter p)) := by rw [upd_ne nT]; exact p3
      have p2' := p2.trans (Ex.new (o := .tup [kV ee.1, ee.2]) hT)
      refine ht ee _ mn _ (Ex.refl _) _ fun H3 e3 => ?_
      cases hp : p ee with
      | true =>
        refine iteT (hk ee H3 H3 (Ex.refl _) _ fun H4 e4 => hv ee H4 H4 (Ex.refl _) _ fun H5 e5 => ⟨_, ee.1, rfl, e5 _ _ (e4 _ _ (e3 _ _ p3')), ?_, p1, (p2'.trans ((e3.trans e4).trans e5)).mut p1, ?_⟩)
        · have := List.length_filter_le p (kvs.take n)
          rw [List.length_take] at this
          exact sz_lt (by omega)
        · rw [upd_same, ts, List.filter_append, putK_new _ (valV_no fun e he => ne e (List.mem_filter.mp he).1)]
          show some (HO.dK _) = some (HO.dK (_ ++ List.filter p [ee]))
          rw [List.filter_cons, if_pos hp]
          rfl
      | false =>
        refine iteF ⟨p1, p2'.trans e3, ?_⟩
        rw [ts, List.filter_append]
        show H3 Dl = some (HO.dK (_ ++ List.filter p [ee]))
        rw [List.filter_cons, if_neg (by rw [hp]; exact Bool.false_ne_true)]
        show H3 Dl = some (HO.dK (_ ++ []))
        rw [List.append_nil]
        exact e3 _ _ p3'
    · rw [upd_ne hDd] at hD
      exact hD
    · rw [upd_ne hDd, pp.2.2, List.take_length]⟩⟩
theorem s_retDk {D : Ends} (h : EvDk te σ H kvs) (k : ∀ p H1, H p = none → Ex H H1 → H1 p = some (.dK kvs) → D.rt (.ref p) H1) : tRet te D σ H := h H (Ex.refl H) _ k
theorem q_asgDk {D : Ends} {tz : TS} {i : Nat} (h : EvDk te σ H kvs) (k : ∀ p H1, H p = none → Ex H H1 → H1 p = some (.dK kvs) → tz D (σ.set i (some (.ref p))) H1) : tSeq (tAsg te (gName i)) tz D σ H := h H (Ex.refl H) _ k
theorem dk_new : EvDk tDNewK σ H [] := fun H1 e Q q p hp => q p _ hp (Ex.new hp) upd_same
theorem dk_call {sp : Sp} {vs : List V} {E : XK} {ta : TA} (h : EvA ta σ H vs) (hs : SpDk sp vs H kvs) : EvDk (tCall sp [] E ta) σ H kvs := fun H1 e Q q =>
  h H1 e _ fun H2 e2 => by
    have := hs H2 (e.trans e2) Q (fun p H3 hp e3 g => q p H3 (fresh_back e2 hp) (e2.trans e3) g) E
    rw [← List.append_nil vs] at this
    exact this
/-- d.get(k, x) -/
theorem ev_get2 {ty tx : TE} {k : Key} {x : V} (hd : Ev td σ H (.ref d)) (g : H d = some (.dK kvs)) (hk : Ev ty σ H (kV k)) (hx : Ev tx σ H x) : Ev (tDGet2 td ty tx) σ H ((valV kvs k).getD x) := fun H1 e Q q =>
  hd H1 e _ fun H2 e2 => ⟨d, rfl, .inl ⟨kvs, .inl ((e.trans e2) _ _ g)⟩, hk H2 (e.trans e2) _ fun H3 e3 => hx H3 ((e.trans e2).trans e3) _ fun H4 e4 => ⟨_, DGet.k (((e.trans e2).trans (e3.trans e4)) _ _ g), q H4 (e2.trans (e3.trans e4))⟩⟩
/-- d[k] = v -/
theorem s_dput {ty tv' : TE} {D : Ends} {k : Key} {v : V} (g : H d = some (.dK kvs)) (hv : Ev tv' σ H v) (hd : Ev td σ H (.ref d)) (hk : Ev ty σ H (kV k)) (hz : kvs.length < 100000) (q : ∀ H1, Ex H H1 → D.nx σ (upd H1 d (.dK (putK kvs k v)))) : sDPut td ty tv' D σ H :=
  hv H (Ex.refl H) _ fun H1 e1 => hd H1 e1 _ fun H2 e2 => hk H2 (e1.trans e2) _ fun H3 e3 => ⟨d, _, rfl, DPut.k (((e1.trans e2).trans e3) _ _ g) (sz_lt hz), q H3 ((e1.trans e2).trans e3)⟩
theorem ev_lenDk {ta : TE} (h : EvDk ta σ H kvs) : Ev (tCB rLenD (tCons ta tNil)) σ H (.int (kvs.length : Nat)) := fun H1 e Q q =>
  h H1 e _ fun p H2 hp e2 g => ⟨p, kvs, rfl, .inl g, q H2 e2⟩
end
end Bk
namespace Bk
open PySem PySem.Spec PyProof.Rows L2 Evl
section
variable {K : PySem.W.Frag} {σ : L2.St} {H : Hp} {te tl : TE} {tt : TT} {tu tz : TS} {D : Ends} {d : Addr} {kvs : List (Key × V)}
theorem given_none (n : Nat) (v : Nat → V) : given n (fun _ => false) v = [] := by
  unfold given
  simp
theorem q_asgLk {i : Nat} {xs : List V} (h : EvL (tLockE te) σ H xs) (k : ∀ p H1, H p = none → Ex H H1 → H1 p = some (.lst xs) → tz D (σ.set i (some (.ref p))) H1) : tSeq (tLock (tAsg te (gName i))) tz D σ H := by
  obtain ⟨d, u, h1, h2, h3⟩ := h H (Ex.refl H) (fun v H' => tz D (σ.set i (some v)) H') k
  exact ⟨d, u, h1, h2, h3⟩
/-- for x, y in xs (a list of pairs) -/
theorem q_forP2 {a : Addr} {xs : List V} {i j : Nat} (h : Ev tl σ H (.ref a)) (hx : SqL K H a xs) (Pv : Nat → L2.St → Hp → Prop) (h0 : ∀ H1, Ex H H1 → Pv 0 σ H1) (hl : ∀ n σ' H', n ≤ xs.length → Pv n σ' H' → SqL K H' a xs)
    (hs : ∀ n v σ' H', xs[n]? = some v → Pv n σ' H' → ∃ t x y, v = .ref t ∧ SqT K H' t [x, y] ∧ tu { D with nx := Pv (n + 1), ct := Pv (n + 1), bk := tz D } ((σ'.set i (some x)).set j (some y)) H') (hd : ∀ σ' H', Pv xs.length σ' H' → tz D σ' H') :
    tSeq (tFor (iList K tl) (gTup K 2 (gCons (gName i) (gCons (gName j) gNil))) tu) tz D σ H :=
  h H (Ex.refl H) _ fun H1 e => ⟨a, rfl, ⟨xs, ex_l e hx⟩, for_list (D := { D with nx := tz D }) Pv (h0 H1 e) hl (fun n v σ' H' hv p => by
    obtain ⟨t, x, y, rfl, ht, q⟩ := hs n v σ' H' hv p
    exact ⟨t, _, rfl, ht, rfl, _, _, rfl, _, _, rfl, rfl, q⟩) hd⟩
/-- xs = [a new tuple for k, v in d.items() if true]: of what is in it nothing is told -/
theorem q_lcAny {i j m n : Nat} {ws : List Nat} {us : Key × V → List V} (hd : σ[m]? = some (some (.ref d))) (g : H d = some (.dK kvs)) (hz : kvs.length ≤ 40000) (hw : ∀ x y, wipe (((wipe σ ws).set i (some x)).set j (some y)) ws = wipe σ ws)
    (ht : ∀ (e : Key × V) H1, e ∈ kvs → EvT tt (((wipe σ ws).set i (some (kV e.1))).set j (some e.2)) H1 true) (he : ∀ (e : Key × V) H1, e ∈ kvs → EvU te (((wipe σ ws).set i (some (kV e.1))).set j (some e.2)) H1 (us e))
    (k : ∀ p H1, Ex H H1 → tz D (σ.set n (some (.ref p))) H1) : tSeq (tLock (tAsg (tLc (iItems (tVar m)) (g2 K i j) tt te ws) (gName n))) tz D σ H := ⟨d, .dK kvs, g, True.intro, fun od => ⟨.ref d, hd, d, od, kvs, rfl, upd_same, fun Dl hD => by
    refine lc_it (walk_items (d := d) (o := od) (kvs := kvs)) (fun t H' => frz H d od kvs Dl = none ∧ Ex (frz H d od kvs) H' ∧ ∃ acc, H' Dl = some (.lst acc) ∧ acc.length ≤ t) ⟨hD, Ex.new hD, [], upd_same, Nat.le_refl _⟩ (fun t H' _ p => p.2.1 _ _ upd_same) (fun t x H' H'' hn pp y => ?_) (fun H' pp => ⟨pp.2.1 _ _ upd_same, k Dl _ (unfrz g pp.2.1)⟩)
    obtain ⟨T, x1, y1, rfl, hT, rfl, hx, hy⟩ := y
    have gn := List.getElem?_eq_getElem hn
    obtain ⟨rfl, rfl⟩ := ix_pairK gn hx hy
    have mn := List.getElem_mem hn
    generalize kvs[t] = ee at *
    refine g2_go upd_same ⟨hw _ _, ?_⟩
    obtain ⟨p1, p2, acc, p3, p4⟩ := pp
    have nT : Dl ≠ T := fun z => by
      rw [← z, p3] at hT
      cases hT
    have p3' : upd H' T (.tup [kV ee.1, ee.2]) Dl = some (.lst acc) := by rw [upd_ne nT]; exact p3
    have p2' := p2.trans (Ex.new (o := .tup [kV ee.1, ee.2]) hT)
    refine ht ee _ mn _ (Ex.refl _) _ fun H3 e3 => iteT ?_
    refine he ee H3 mn H3 (Ex.refl _) _ fun p H4 hp e4 g4 => ⟨acc, e4 _ _ (e3 _ _ p3'), sz_lt (by omega), p1, (p2'.trans (e3.trans e4)).mut p1, _, upd_same, ?_⟩
    rw [List.length_append]
    show acc.length + 1 ≤ t + 1
    omega⟩⟩
end
end Bk
namespace Bk
open PySem PySem.Spec PyProof.Rows L2 Evl
/-! ### fe(e, ..), fe any expression whose value is one of some defs -/
def RunF (X : Cx) (E : XK) (f : Addr) (sp : Sp) : Prop := PySem.W.keepIn X.K (.ref f) = true ∧ ∀ (pins : List (Addr × Obj)) (σ : L2.St) (H : Hp) (s : Shared) (Q : VK) (us : List Value) (vs : List V), Inv X pins σ H s → Vals vs us → sp vs H Q E → wpAny (model X.prog X.w) X.A (call (.ref f) us) (EP X pins σ Q) X.xe s
def Runs (X : Cx) (E : XK) (fs : List (Addr × Sp)) : Prop := ∀ q ∈ fs, RunF X E q.1 q.2
def tCallE (fs : List (Addr × Sp)) (E : XK) (tf : TE) (t : TA) : TE := fun σ H Q => tf σ H fun v H1 => ∃ (f : Addr) (sp : Sp), v = .ref f ∧ (f, sp) ∈ fs ∧ t σ H1 fun vs H2 => sp vs H2 Q E
section
variable {X : Cx} {CX : CXT} {k : Nat} {f : Addr} {fd : FuncData} {ps : List Str} {sp : Sp} {E : XK} {fs : List (Addr × Sp)} {fe e : Expr} {es : List Expr} {tf : TE} {t : TA} {pos : Pos}
theorem runF (F : FnG X.prog X.w X.K X.mg X.base CX k f fd ps sp) (hr : Rm k X.A) (hk : PySem.W.keepIn X.K (.ref f) = true) (hb : Binds X.K fd ps []) (hx : Passes CX X E) : RunF X E f sp :=
  ⟨hk, fun pins σ H s Q us vs I r h => runG F hr hb .nil hx I r (by rw [List.append_nil]; exact h)⟩
theorem runs_nil : Runs X E [] := fun _ h => nomatch h
theorem runs_cons (h : RunF X E f sp) (r : Runs X E fs) : Runs X E ((f, sp) :: fs) := fun q m => (List.mem_cons.mp m).elim (fun z => z ▸ h) (r q)
theorem pe_callE (hf : PE X fe tf) (hfs : Runs X E fs) (ha : PA X (e :: es) t)
    (hst : starEach (e :: es) X.env = (false, eval e X.env) :: starEach es X.env := by rfl) (hpl : (backTo pos (starEach es X.env)).any (·.1) = false := by rfl)
    (he : eval (.Call fe (e :: es) [] pos) X.env = (do callWith pos (← eval fe X.env) [] (backTo pos (starEach (e :: es) X.env)) (backToKw pos (keywordEach [] X.env))) := by rfl) :
    PE X (.Call fe (e :: es) [] pos) (tCallE fs E tf t) := by
  refine ⟨fun pins s σ H Q I h => PyProof.Rows.Call_ (thn (hf.run pins s σ H _ I h) fun u s0 ⟨v, H0, I0, r0, f, sp, ev, m, q0⟩ => ?_) he⟩
  subst ev
  obtain rfl : u = Value.ref f := r0
  refine PySem.W.callWith_K (h₀ := X.base) I.ok.mod.kin (hfs _ m).1 (thn (ha.run pos pins s0 σ H0 _ I0 q0) fun us s1 ⟨vs, H1, I1, r1, q1⟩ => ⟨I1.kIn, ?_⟩) hst hpl
  exact (hfs _ m).2 pins σ H1 s1 Q us vs I1 r1 q1
end
section
variable {K : PySem.W.Frag} {σ : L2.St} {H : Hp} {tf : TE} {t : TA} {fs : List (Addr × Sp)} {E : XK} {f : Addr} {sp : Sp} {vs : List V} {Q : VK}
theorem callE (h : Ev tf σ H (.ref f)) (m : (f, sp) ∈ fs) (ha : ∀ H1, Ex H H1 → EvA t σ H1 vs) (hs : ∀ H1, Ex H H1 → sp vs H1 Q E) : tCallE fs E tf t σ H Q :=
  h H (Ex.refl H) _ fun H1 e1 => ⟨f, sp, rfl, m, ha H1 e1 H1 (Ex.refl H1) _ fun H2 e2 => hs H2 (e1.trans e2)⟩
end
end Bk
namespace My
open PySem PySem.Spec PyProof.Rows L2 Evl Bk

/-! ### tables of numbers -/
def tabL (m : Nat) (f : Nat → Int) : List Int := (List.range m).map f
theorem tab_length (m : Nat) (f : Nat → Int) : (tabL m f).length = m := by simp [tabL]
theorem tab_get {m : Nat} {f : Nat → Int} {i : Nat} (h : i < m) : (tabL m f)[i]? = some (f i) := by
  unfold tabL
  rw [List.getElem?_map, List.getElem?_range h]
  rfl
theorem tab_at {m : Nat} {f : Nat → Int} {i : Nat} (h : i < m) : (vi (tabL m f))[i]? = some (.int (f i)) := by
  unfold vi
  rw [List.getElem?_map, tab_get h]
  rfl
theorem tab_getD {m : Nat} {f : Nat → Int} {i : Nat} (h : i < m) : (tabL m f).getD i 0 = f i := by
  rw [List.getD_eq_getElem?_getD, tab_get h]
  rfl
theorem tab_congr {m : Nat} {f g : Nat → Int} (h : ∀ i, i < m → f i = g i) : tabL m f = tabL m g := List.map_congr_left fun i hi => h i (List.mem_range.mp hi)
theorem tab_set {m : Nat} {f : Nat → Int} {j : Nat} {v : Int} (h : j < m) : (tabL m f).set j v = tabL m fun i => if i = j then v else f i := by
  refine List.ext_getElem? fun i => ?_
  by_cases hi : i < m
  · rw [tab_get hi]
    by_cases c : i = j
    · rw [c, List.getElem?_set_self (by rw [tab_length]; exact h), if_pos rfl]
    · rw [List.getElem?_set_ne (Ne.symm c), tab_get hi, if_neg c]
  · rw [List.getElem?_eq_none (by rw [List.length_set, tab_length]; omega), List.getElem?_eq_none (by rw [tab_length]; omega)]
theorem tab_self (r : List Int) : tabL r.length (fun i => r.getD i 0) = r := by
  refine List.ext_getElem? fun i => ?_
  by_cases hi : i < r.length
  · rw [tab_get hi, List.getElem?_eq_getElem hi, List.getD_eq_getElem?_getD, List.getElem?_eq_getElem hi]
    rfl
  · rw [List.getElem?_eq_none (by rw [tab_length]; omega), List.getElem?_eq_none (by omega)]
theorem tab_zero (m : Nat) : List.replicate m (0 : Int) = tabL m fun _ => 0 := by
  refine List.ext_getElem? fun i => ?_
  rw [List.getElem?_replicate]
  by_cases hi : i < m
  · rw [tab_get hi, if_pos hi]
  · rw [if_neg hi, List.getElem?_eq_none (by rw [tab_length]; omega)]
theorem given_tab (m : Nat) (f : Nat → Int) : given m (fun _ => true) (fun i => V.int (f i)) = vi (tabL m f) := given_ints _ _
/-! ### the row of counts -/
def part (c : List Int) (i : Nat) : Nat → Int
  | 0 => 0
  | k + 1 => part c i k + (if (i + 1) % (k + 1) = 0 then ((k + 1 : Nat) : Int) * c.getD k 0 else 0)
def rowL (c : List Int) : List Int := tabL c.length fun i => part c i (i + 1)
theorem rowL_length (c : List Int) : (rowL c).length = c.length := tab_length _ _
theorem part_stay (c : List Int) (i : Nat) {k : Nat} (h : i + 1 ≤ k) : part c i k = part c i (i + 1) := by
  induction k with
  | zero => omega
  | succ k ih =>
    by_cases e : i = k
    · rw [e]
    · show part c i k + (if (i + 1) % (k + 1) = 0 then _ else 0) = _
      rw [if_neg (by rw [Nat.mod_eq_of_lt (by omega)]; omega), ih (by omega), Int.add_zero]
/-- j is the t-th multiple of n -/
theorem mul_ix {n t i : Nat} (hn : 0 < n) (h : (i + 1) % n = 0) : (i + 1) / n ≤ t + 1 ↔ (i + 1) / n ≤ t ∨ i + 1 = n * (t + 1) := by
  have e := Nat.div_add_mod (i + 1) n
  rw [h, Nat.add_zero] at e
  constructor
  · intro k
    by_cases c : (i + 1) / n ≤ t
    · exact .inl c
    · right
      rw [← e, show (i + 1) / n = t + 1 by omega]
  · rintro (k | k)
    · omega
    · rw [k, Nat.mul_div_cancel_left _ hn]
      exact Nat.le_refl _
theorem mul_mod {n t : Nat} (hn : 0 < n) : (n * (t + 1) - 1 + 1) % n = 0 ∧ (n * (t + 1) - 1 + 1) / n = t + 1 := by
  have : 0 < n * (t + 1) := Nat.mul_pos hn (Nat.succ_pos t)
  rw [show n * (t + 1) - 1 + 1 = n * (t + 1) by omega]
  exact ⟨Nat.mul_mod_right _ _, Nat.mul_div_cancel_left _ hn⟩
/-! ### new numbers -/
def sub (r : List Int) : Nat → Nat → Int
  | 0, i => r.getD i 0
  | k + 1, i => sub r k i - (if k < i ∧ (i + 1) % (k + 1) = 0 then sub r k k else 0)
def newL (r : List Int) : List Int := tabL r.length (sub r r.length)
theorem newL_length (r : List Int) : (newL r).length = r.length := tab_length _ _
theorem sub_row (c : List Int) (k : Nat) : ∀ i, i < c.length → sub (rowL c) k i = part c i (i + 1) - part c i (min k i) := by
  induction k with
  | zero =>
    intro i hi
    show (rowL c).getD i 0 = _
    rw [Nat.zero_min]
    unfold rowL
    rw [tab_getD hi]
    show _ = _ - (0 : Int)
    omega
  | succ k ih =>
    intro i hi
    show sub (rowL c) k i - (if k < i ∧ (i + 1) % (k + 1) = 0 then sub (rowL c) k k else 0) = _
    rw [ih i hi]
    by_cases h : k < i
    · rw [show min (k + 1) i = k + 1 by omega, show min k i = k by omega]
      have ek : part c i (k + 1) = part c i k + (if (i + 1) % (k + 1) = 0 then ((k + 1 : Nat) : Int) * c.getD k 0 else 0) := rfl
      by_cases h2 : (i + 1) % (k + 1) = 0
      · have e3 : part c k (k + 1) = part c k k + (if (k + 1) % (k + 1) = 0 then ((k + 1 : Nat) : Int) * c.getD k 0 else 0) := rfl
        rw [if_pos (Nat.mod_self _)] at e3
        rw [if_pos h2] at ek
        rw [if_pos ⟨h, h2⟩, ih k (by omega), Nat.min_self, ek, e3]
        omega
      · rw [if_neg h2] at ek
        rw [if_neg fun z => h2 z.2, ek]
        omega
    · rw [if_neg fun z => h z.1, show min (k + 1) i = i by omega, show min k i = i by omega]
      omega
theorem new_row (c : List Int) : newL (rowL c) = tabL c.length fun i => ((i + 1 : Nat) : Int) * c.getD i 0 := by
  unfold newL
  rw [rowL_length]
  refine tab_congr fun i hi => ?_
  rw [sub_row c _ i hi, show min c.length i = i by omega]
  have e3 : part c i (i + 1) = part c i i + (if (i + 1) % (i + 1) = 0 then ((i + 1 : Nat) : Int) * c.getD i 0 else 0) := rfl
  rw [if_pos (Nat.mod_self _)] at e3
  rw [e3]
  omega
/-- no bar -/
def Free (r : List Int) : Prop := ∀ i, i < r.length → ∃ q : Int, 0 ≤ q ∧ (newL r).getD i 0 = ((i + 1 : Nat) : Int) * q
theorem free_row {c : List Int} (h : ∀ n ∈ c, 0 ≤ n) : Free (rowL c) := fun i hi => by
  rw [rowL_length] at hi
  refine ⟨c.getD i 0, ?_, by rw [new_row, tab_getD hi]⟩
  rw [List.getD_eq_getElem?_getD, List.getElem?_eq_getElem hi]
  exact h _ (List.getElem_mem hi)
def ringsR (r : List Int) : List Int := tabL r.length fun i => (newL r).getD i 0 / ((i + 1 : Nat) : Int)
theorem rings_row (c : List Int) : ringsR (rowL c) = c := by
  unfold ringsR
  rw [rowL_length]
  refine (tab_congr fun i hi => ?_).trans (tab_self c)
  rw [new_row, tab_getD hi, Int.mul_ediv_cancel_left _ (by omega)]
def addL (xs ys : List Int) : List Int := tabL (min xs.length ys.length) fun i => xs.getD i 0 + ys.getD i 0
theorem getD_at {xs : List Int} {i : Nat} (h : i < xs.length) : (vi xs)[i]? = some (.int (xs.getD i 0)) := by
  rw [vi_at h, List.getD_eq_getElem?_getD, List.getElem?_eq_getElem h]
  rfl

/-! ### new numbers, told divisor by divisor -/
theorem sub_late (r : List Int) {i k : Nat} (h : i ≤ k) : sub r k i = sub r i i := by
  induction k with
  | zero =>
    rw [show i = 0 by omega]
  | succ k ih =>
    by_cases e : i = k + 1
    · rw [e]
    · show sub r k i - (if k < i ∧ (i + 1) % (k + 1) = 0 then sub r k k else 0) = _
      rw [if_neg fun z => by omega, ih (by omega), Int.sub_zero]
theorem newL_diag (r : List Int) : newL r = tabL r.length fun i => sub r i i := tab_congr fun i hi => sub_late r (Nat.le_of_lt hi)
theorem sub_half (r : List Int) (i : Nat) {k : Nat} (h : (i + 1) / 2 ≤ k) (hk : k ≤ i) : sub r k i = sub r ((i + 1) / 2) i := by
  induction k with
  | zero =>
    rw [show (i + 1) / 2 = 0 by omega]
  | succ k ih =>
    by_cases e : (i + 1) / 2 = k + 1
    · rw [e]
    · show sub r k i - (if k < i ∧ (i + 1) % (k + 1) = 0 then sub r k k else 0) = _
      rw [if_neg, ih (by omega) (by omega), Int.sub_zero]
      rintro ⟨h1, h2⟩
      obtain ⟨q, hq⟩ := Nat.dvd_of_mod_eq_zero h2
      have hq2 : 2 ≤ q := by
        rcases Nat.lt_or_ge q 2 with z | z
        · have : q = 0 ∨ q = 1 := by omega
          rcases this with z | z
          · rw [z] at hq
            omega
          · rw [z] at hq
            omega
        · exact z
      have : (k + 1) * 2 ≤ (k + 1) * q := Nat.mul_le_mul_left _ hq2
      omega
theorem sub_sum (r : List Int) (i : Nat) : ∀ k : Nat, k ≤ i → (((List.range k).filter fun d : Nat => decide ((1 + (i : Int)) % (1 + (d : Int)) = 0)).map fun d : Nat => sub r d d).sum = r.getD i 0 - sub r k i
  | 0, _ => by
    show (0 : Int) = r.getD i 0 - r.getD i 0
    omega
  | k + 1, hk => by
    have ih := sub_sum r i k (by omega)
    have e : ((1 + (i : Int)) % (1 + (k : Int)) = 0) ↔ (i + 1) % (k + 1) = 0 := by
      have : ((1 + (i : Int)) % (1 + (k : Int))) = (((i + 1) % (k + 1) : Nat) : Int) := by
        rw [Int.natCast_emod, Int.natCast_add, Int.natCast_add, Int.add_comm 1, Int.add_comm 1]
        rfl
      rw [this]
      omega
    rw [List.range_succ, List.filter_append, List.map_append, List.sum_append, ih]
    show _ = r.getD i 0 - (sub r k i - (if k < i ∧ (i + 1) % (k + 1) = 0 then sub r k k else 0))
    by_cases h : (i + 1) % (k + 1) = 0
    · rw [if_pos ⟨by omega, h⟩, List.filter_cons, if_pos (decide_eq_true (e.mpr h))]
      simp only [List.filter_nil, List.map_cons, List.map_nil, List.sum_cons, List.sum_nil]
      omega
    · rw [if_neg fun z => h z.2, List.filter_cons, if_neg (by simpa using fun z => h (e.mp z))]
      simp only [List.filter_nil, List.map_nil, List.sum_nil]
      omega
theorem part_le {c : List Int} {B : Int} (hB : 0 ≤ B) (h : ∀ z ∈ c, 0 ≤ z ∧ z < B) (i : Nat) : ∀ k : Nat, k ≤ 60 → 0 ≤ part c i k ∧ part c i k ≤ (k : Int) * (60 * B)
  | 0, _ => ⟨Int.le_refl _, by show (0 : Int) ≤ (0 : Int) * _; omega⟩
  | k + 1, hk => by
    obtain ⟨h0, h1⟩ := part_le hB h i k (by omega)
    have hc : 0 ≤ c.getD k 0 ∧ c.getD k 0 ≤ B := by
      rw [List.getD_eq_getElem?_getD]
      cases g : c[k]? with
      | none => exact ⟨Int.le_refl _, hB⟩
      | some z =>
        have := h z (List.mem_of_getElem? g)
        show 0 ≤ z ∧ z ≤ B
        omega
    have h2 : 0 ≤ ((k + 1 : Nat) : Int) * c.getD k 0 := Int.mul_nonneg (by omega) hc.1
    have h3 : ((k + 1 : Nat) : Int) * c.getD k 0 ≤ 60 * B := Int.mul_le_mul (by omega) hc.2 hc.1 (by decide)
    have e : ((k + 1 : Nat) : Int) * (60 * B) = (k : Int) * (60 * B) + 60 * B := by
      rw [Int.natCast_add, Int.add_mul]
      omega
    show 0 ≤ part c i k + _ ∧ part c i k + _ ≤ _
    rw [e]
    split <;> omega
/-- a row as it is drawn -/
def RowOk (r : List Int) : Prop := 0 < r.length ∧ r.length ≤ 30 ∧ ∀ x ∈ r, -(2 ^ 170) < x ∧ x < 2 ^ 170
theorem rowok_set {r : List Int} {i : Nat} {x : Int} (h : RowOk r) (hx : -(2 ^ 170) < x ∧ x < 2 ^ 170) : RowOk (r.set i x) := by
  obtain ⟨h0, h1, h2⟩ := h
  refine ⟨by rw [List.length_set]; exact h0, by rw [List.length_set]; exact h1, fun y hy => ?_⟩
  rcases List.mem_or_eq_of_mem_set hy with z | z
  · exact h2 y z
  · rw [z]
    exact hx
theorem rowok_wide {r : List Int} (h : RowOk r) : wide 1900 r ∧ r.length ≤ 4000 := by
  obtain ⟨h0, h1, h2⟩ := h
  refine ⟨(wide_lt (k := 170) (by decide) fun n hn => ?_).mono (by decide), by omega⟩
  have := h2 n hn
  have e2 : (2 : Nat) ^ 170 = 1496577676626844588240573268701473812127674924007424 := by decide
  have e3 : (2 : Int) ^ 170 = 1496577676626844588240573268701473812127674924007424 := by decide
  rw [e3] at this
  rw [e2]
  omega

/-! ### the least row above -/
def lk (x : Int) : Int := if x > 0 then x else 0
theorem lk_div (x : Int) {n : Int} (hn : 0 < n) : ∃ q : Int, 0 ≤ q ∧ lk x + -lk x % n = n * q := by
  have h0 : 0 ≤ lk x := by
    unfold lk
    split <;> omega
  have h1 := Int.emod_nonneg (-lk x) (show n ≠ 0 by omega)
  have h2 : (lk x + -lk x % n) % n = 0 := by
    rw [Int.add_emod_emod, show lk x + -lk x = 0 by omega, Int.zero_emod]
  exact ⟨(lk x + -lk x % n) / n, Int.ediv_nonneg (by omega) (by omega), (Int.mul_ediv_cancel' (Int.dvd_of_emod_eq_zero h2)).symm⟩
def Least (r c : List Int) (k : Nat) : Prop := ∀ j, j < k → lk (r.getD j 0 - part c j j) + -lk (r.getD j 0 - part c j j) % ((j + 1 : Nat) : Int) = ((j + 1 : Nat) : Int) * c.getD j 0
def LeastOf (r c : List Int) : Prop := c.length = r.length ∧ (∀ z ∈ c, 0 ≤ z) ∧ Least r c c.length
theorem part_app (c : List Int) (x : Int) (i : Nat) : ∀ k, k ≤ c.length → part (c ++ [x]) i k = part c i k
  | 0, _ => rfl
  | k + 1, h => by
    show part (c ++ [x]) i k + _ = part c i k + _
    have e : (c ++ [x]).getD k 0 = c.getD k 0 := by
      rw [List.getD_eq_getElem?_getD, List.getD_eq_getElem?_getD, List.getElem?_append_left (by omega)]
    rw [part_app c x i k (by omega), e]
theorem push_getD {c : List Int} {k : Nat} (h : c.length = k) (x : Int) : (c ++ [x]).getD k 0 = x := by
  rw [List.getD_eq_getElem?_getD, List.getElem?_append_right (by omega), h, Nat.sub_self]
  rfl
theorem part_push {c : List Int} {k i : Nat} {x : Int} (h : c.length = k) : part (c ++ [x]) i (k + 1) = part c i k + (if (i + 1) % (k + 1) = 0 then ((k + 1 : Nat) : Int) * x else 0) := by
  show part (c ++ [x]) i k + (if (i + 1) % (k + 1) = 0 then ((k + 1 : Nat) : Int) * (c ++ [x]).getD k 0 else 0) = _
  rw [part_app c x i k (by omega), push_getD h]
theorem least_app {r c : List Int} {k : Nat} {x : Int} (h : c.length = k) (le : Least r c k) (hx : lk (r.getD k 0 - part c k k) + -lk (r.getD k 0 - part c k k) % ((k + 1 : Nat) : Int) = ((k + 1 : Nat) : Int) * x) : Least r (c ++ [x]) (k + 1) := fun j hj => by
  rw [part_app c x j j (by omega)]
  by_cases e : j = k
  · subst e
    rw [push_getD h]
    exact hx
  · have e2 : (c ++ [x]).getD j 0 = c.getD j 0 := by
      rw [List.getD_eq_getElem?_getD, List.getD_eq_getElem?_getD, List.getElem?_append_left (by omega)]
    rw [e2]
    exact le j (by omega)

theorem part_same {c c' : List Int} {i : Nat} : ∀ {k : Nat}, (∀ d, d < k → c.getD d 0 = c'.getD d 0) → part c i k = part c' i k
  | 0, _ => rfl
  | k + 1, h => by
    show part c i k + _ = part c' i k + _
    rw [part_same fun d hd => h d (by omega), h k (by omega)]
theorem part_top (c : List Int) (j : Nat) : part c j (j + 1) = part c j j + ((j + 1 : Nat) : Int) * c.getD j 0 := by
  show part c j j + (if (j + 1) % (j + 1) = 0 then _ else 0) = _
  rw [if_pos (Nat.mod_self _)]
theorem getD_nn' {c : List Int} (h : ∀ z ∈ c, 0 ≤ z) (j : Nat) : 0 ≤ c.getD j 0 := by
  rw [List.getD_eq_getElem?_getD]
  cases g : c[j]? with
  | none => exact Int.le_refl 0
  | some z => exact h z (List.mem_of_getElem? g)
theorem least_uniq {c0 c : List Int} (h0 : ∀ z ∈ c0, 0 ≤ z) (h : LeastOf (rowL c0) c) : c = c0 := by
  obtain ⟨hl, hn, le⟩ := h
  rw [rowL_length] at hl
  have go : ∀ j, j < c.length → c.getD j 0 = c0.getD j 0 := by
    intro j
    induction j using Nat.strongRecOn with
    | _ j ih =>
      intro hj
      have e := le j hj
      have ep : part c j j = part c0 j j := part_same fun d hd => ih d hd (by omega)
      have er : (rowL c0).getD j 0 = part c0 j (j + 1) := by
        unfold rowL
        exact tab_getD (by omega)
      rw [ep, er, part_top, show part c0 j j + ((j + 1 : Nat) : Int) * c0.getD j 0 - part c0 j j = ((j + 1 : Nat) : Int) * c0.getD j 0 by omega] at e
      have hp : 0 ≤ ((j + 1 : Nat) : Int) * c0.getD j 0 := Int.mul_nonneg (by omega) (getD_nn' h0 j)
      have el : lk (((j + 1 : Nat) : Int) * c0.getD j 0) = ((j + 1 : Nat) : Int) * c0.getD j 0 := by
        unfold lk
        split <;> omega
      rw [el, ← Int.mul_neg, Int.mul_emod_right, Int.add_zero] at e
      exact (Int.eq_of_mul_eq_mul_left (by omega) e).symm
  refine List.ext_getElem? fun j => ?_
  by_cases hj : j < c.length
  · have := go j hj
    rw [List.getD_eq_getElem?_getD, List.getD_eq_getElem?_getD, List.getElem?_eq_getElem hj, List.getElem?_eq_getElem (show j < c0.length by omega)] at this
    rw [List.getElem?_eq_getElem hj, List.getElem?_eq_getElem (show j < c0.length by omega)]
    exact congrArg some this
  · rw [List.getElem?_eq_none (by omega), List.getElem?_eq_none (by omega)]
theorem rings_get {r : List Int} (fr : Free r) {j : Nat} (hj : j < r.length) : 0 ≤ (ringsR r).getD j 0 ∧ ((j + 1 : Nat) : Int) * (ringsR r).getD j 0 = sub r j j := by
  obtain ⟨d, d0, ed⟩ := fr j hj
  have e1 : (ringsR r).getD j 0 = (newL r).getD j 0 / ((j + 1 : Nat) : Int) := by
    unfold ringsR
    exact tab_getD hj
  have e2 : (newL r).getD j 0 = sub r j j := by
    rw [newL_diag]
    exact tab_getD hj
  rw [e1, ed, Int.mul_ediv_cancel_left _ (by omega), ← ed, e2]
  exact ⟨d0, rfl⟩
theorem free_rowL {r : List Int} (fr : Free r) : rowL (ringsR r) = r := by
  have hl : (ringsR r).length = r.length := tab_length _ _
  have go : ∀ k i, k ≤ i → i < r.length → sub r k i = r.getD i 0 - part (ringsR r) i k := by
    intro k
    induction k with
    | zero =>
      intro i _ _
      show r.getD i 0 = r.getD i 0 - 0
      omega
    | succ k ih =>
      intro i hk hi
      have e1 : sub r (k + 1) i = sub r k i - (if k < i ∧ (i + 1) % (k + 1) = 0 then sub r k k else 0) := rfl
      have e2 : part (ringsR r) i (k + 1) = part (ringsR r) i k + (if (i + 1) % (k + 1) = 0 then ((k + 1 : Nat) : Int) * (ringsR r).getD k 0 else 0) := rfl
      rw [e1, e2, ih i (by omega) hi, (rings_get fr (show k < r.length by omega)).2]
      by_cases c : (i + 1) % (k + 1) = 0
      · rw [if_pos ⟨by omega, c⟩, if_pos c]
        omega
      · rw [if_neg fun z => c z.2, if_neg c]
        omega
  unfold rowL
  rw [hl]
  refine (tab_congr fun i hi => ?_).trans (tab_self r)
  have := go i i (Nat.le_refl i) hi
  rw [part_top, (rings_get fr hi).2]
  omega
theorem rings_nn {r : List Int} (fr : Free r) : ∀ z ∈ ringsR r, 0 ≤ z := fun z hz => by
  obtain ⟨j, hj, rfl⟩ := List.getElem_of_mem hz
  have hl : (ringsR r).length = r.length := tab_length _ _
  have := (rings_get fr (show j < r.length by omega)).1
  rw [List.getD_eq_getElem?_getD, List.getElem?_eq_getElem hj] at this
  exact this
theorem least_free {r c : List Int} (fr : Free r) (h : LeastOf r c) : rowL c = r := by
  have e := free_rowL fr
  rw [← e] at h
  rw [least_uniq (rings_nn fr) h, e]
/-- what is asked of the least row, number by number -/
theorem least_at {r c : List Int} (h : LeastOf r c) {j : Nat} (hj : j < r.length) : (rowL c).getD j 0 = part c j j + ((j + 1 : Nat) : Int) * c.getD j 0 ∧ 0 ≤ part c j j ∧ r.getD j 0 ≤ (rowL c).getD j 0 ∧ (0 < ((j + 1 : Nat) : Int) * c.getD j 0 → (rowL c).getD j 0 - ((j + 1 : Nat) : Int) < r.getD j 0) := by
  obtain ⟨hl, hn, le⟩ := h
  have e := le j (by omega)
  have ep : ∀ k, 0 ≤ part c j k := by
    intro k
    induction k with
    | zero => exact Int.le_refl _
    | succ k ih =>
      show 0 ≤ part c j k + _
      have : 0 ≤ ((k + 1 : Nat) : Int) * c.getD k 0 := Int.mul_nonneg (by omega) (getD_nn' hn k)
      split <;> omega
  have er : (rowL c).getD j 0 = part c j j + ((j + 1 : Nat) : Int) * c.getD j 0 := by
    unfold rowL
    rw [tab_getD (by omega), part_top]
  have m0 := Int.emod_nonneg (-lk (r.getD j 0 - part c j j)) (show ((j + 1 : Nat) : Int) ≠ 0 by omega)
  have m1 := Int.emod_lt_of_pos (-lk (r.getD j 0 - part c j j)) (show (0 : Int) < ((j + 1 : Nat) : Int) by omega)
  refine ⟨er, ep j, ?_, fun hpos => ?_⟩
  · rw [er, ← e]
    have : r.getD j 0 - part c j j ≤ lk (r.getD j 0 - part c j j) := by
      unfold lk
      split <;> omega
    omega
  · rw [er, ← e]
    rw [← e] at hpos
    by_cases d0 : r.getD j 0 - part c j j > 0
    · have el : lk (r.getD j 0 - part c j j) = r.getD j 0 - part c j j := if_pos d0
      rw [el] at m1 ⊢
      omega
    · have el : lk (r.getD j 0 - part c j j) = 0 := if_neg d0
      rw [el, Int.neg_zero, Int.zero_emod] at hpos
      omega
theorem least_wide {r c : List Int} (ok : RowOk r) (h : LeastOf r c) : wide 1900 (rowL c) ∧ (rowL c).length ≤ 4000 := by
  obtain ⟨h0, h1, h2⟩ := ok
  have hl := h.1
  have e170 : (2 : Int) ^ 170 = 1496577676626844588240573268701473812127674924007424 := by decide
  rw [e170] at h2
  have term : ∀ j, j < r.length → 0 ≤ ((j + 1 : Nat) : Int) * c.getD j 0 ∧ ((j + 1 : Nat) : Int) * c.getD j 0 ≤ 2000000000000000000000000000000000000000000000000000 := by
    intro j hj
    obtain ⟨e1, e2, e3, e4⟩ := least_at h hj
    have p : 0 ≤ ((j + 1 : Nat) : Int) * c.getD j 0 := Int.mul_nonneg (by omega) (getD_nn' h.2.1 j)
    refine ⟨p, ?_⟩
    have hr := h2 _ (List.getElem_mem hj)
    have er : r.getD j 0 = r[j] := by
      rw [List.getD_eq_getElem?_getD, List.getElem?_eq_getElem hj]
      rfl
    by_cases q : 0 < ((j + 1 : Nat) : Int) * c.getD j 0
    · have := e4 q
      omega
    · omega
  have bound : ∀ i k : Nat, k ≤ r.length → 0 ≤ part c i k ∧ part c i k ≤ (k : Int) * 2000000000000000000000000000000000000000000000000000 := by
    intro i k
    induction k with
    | zero => exact fun _ => ⟨Int.le_refl _, by show (0 : Int) ≤ (0 : Int) * _; omega⟩
    | succ k ih =>
      intro hk
      have := ih (by omega)
      have := term k (by omega)
      show 0 ≤ part c i k + _ ∧ part c i k + _ ≤ _
      split <;> omega
  refine ⟨(wide_lt (k := 200) (by decide) fun n hn => ?_).mono (by decide), by rw [rowL_length]; omega⟩
  obtain ⟨i, hi, rfl⟩ := List.mem_map.mp hn
  have hi := List.mem_range.mp hi
  have := bound i (i + 1) (by omega)
  have e2 : (2 : Nat) ^ 200 = 1606938044258990275541962092341162602522202993782792835301376 := by decide
  rw [e2]
  omega

/-! ### rules -/
structure Tm where
  w : Nat
  c : Int
  z : Int
def kn (w : Nat) : Str := if w = 0 then "power" else if w = 1 then "ring" else "places"
def tv (t : Tm) : List V := [.str (kn t.w), .int t.c, .int t.z]
structure TmOk (t : Tm) : Prop where
  c0 : -1000000 ≤ t.c
  c1 : t.c ≤ 1000000
  w2 : t.w < 3
  p : t.w = 0 → -40 ≤ t.z ∧ t.z ≤ 40
  r : t.w = 1 → 1 ≤ t.z ∧ t.z ≤ 300
  s : t.w = 2 → 1 ≤ t.z ∧ t.z ≤ 6
def tat (t : Tm) (n : Nat) : Int := if t.w = 0 then t.c * t.z ^ n else if t.w = 1 then (if (n : Int) % t.z = 0 then t.c * t.z else 0) else t.c * ((n ^ t.z.toNat : Nat) : Int)
def rat (ts : List Tm) (n : Nat) : Int := (ts.map fun t => tat t n).sum
/-- a rule stands at r -/
def Rul (H : Hp) (r : Addr) (ts : List Tm) : Prop := ∃ as : List Addr, H r = some (.lst (as.map .ref)) ∧ as.length = ts.length ∧ ∀ (i : Nat) (a : Addr) (t : Tm), as[i]? = some a → ts[i]? = some t → H a = some (.tup (tv t))
theorem Rul.ex {H H' : Hp} {r : Addr} {ts : List Tm} (h : Rul H r ts) (e : Ex H H') : Rul H' r ts := by
  obtain ⟨as, g, l, f⟩ := h
  exact ⟨as, e _ _ g, l, fun i a t x y => e _ _ (f i a t x y)⟩
theorem rat_snoc (ts : List Tm) (t : Tm) (n : Nat) : rat (ts ++ [t]) n = rat ts n + tat t n := by
  unfold rat
  rw [List.map_append, List.sum_append]
  show _ + (tat t n + 0) = _
  omega
def ruv (ts : List Tm) (n : Nat) : List Int := tabL n fun i => rat ts (i + 1)
def tuv (t : Tm) (n : Nat) : List Int := tabL n fun i => tat t (i + 1)
theorem rv_eqS {H : Hp} {x y : Str} : RV rEq (.str x) (.str y) H (.bl (decide (x = y))) := by
  have h : RV rEq (V.str x) (V.str y) H (.bl (decide (V.str x = V.str y))) := rv_eq rfl
  have e : decide (V.str x = V.str y) = decide (x = y) := decide_eq_decide.mpr ⟨fun z => V.str.inj z, fun z => by rw [z]⟩
  rwa [e] at h

def tdat (t : Tm) : PyData := .tuple [.str (kn t.w), .int t.c, .int t.z]
def rdat (ts : List Tm) : PyData := .list (ts.map tdat)
theorem kn_len (w : Nat) : (PyData.shown (.str (kn w))).length ≤ 40 := by
  unfold kn
  split
  · rw [PyData.shown]
    decide +kernel
  · split
    · rw [PyData.shown]
      decide +kernel
    · rw [PyData.shown]
      decide +kernel
theorem log_of {i : Int} (h0 : -1000000000 ≤ i) (h1 : i ≤ 1000000000) : i.natAbs.log2 < 1900 := by
  refine Nat.lt_of_lt_of_le (PySem.Flt.log2_lt_of (k := 100) (by decide) ?_) (by decide)
  have e : (2 : Nat) ^ 100 = 1267650600228229401496703205376 := by decide
  rw [e]
  omega
def TmL (t : Tm) : Prop := -1000000000 ≤ t.c ∧ t.c ≤ 1000000000 ∧ -1000000000 ≤ t.z ∧ t.z ≤ 1000000000
theorem tdat_len {t : Tm} (h : TmL t) : (tdat t).shown.length ≤ 6000 := by
  obtain ⟨c0, c1, z0, z1⟩ := h
  have hi : ∀ {n : Int}, n.natAbs.log2 < 1900 → ((toString n : Str)).length ≤ 1901 := fun hn => by
    rw [PySem.ofString_length]
    exact int_text_length_le (by decide) hn
  unfold tdat
  rw [PyData.shown]
  have := tupleText_le (ts := PyData.shownAll [.str (kn t.w), .int t.c, .int t.z]) (L := 1901) (by
    intro x hx
    simp only [PyData.shownAll, List.mem_cons, List.not_mem_nil, or_false] at hx
    rcases hx with e | e | e
    · have := kn_len t.w
      rw [e]
      omega
    · rw [e, PyData.shown]
      exact hi (log_of c0 c1)
    · rw [e, PyData.shown]
      exact hi (log_of z0 z1))
  have e2 : (PyData.shownAll [.str (kn t.w), .int t.c, .int t.z]).length = 3 := rfl
  rw [e2] at this
  omega
theorem rdat_all : ∀ {ts : List Tm}, (∀ t ∈ ts, TmL t) → PyData.showableAll (ts.map tdat) = true ∧ PyData.hasDictAll (ts.map tdat) = false ∧ PyData.depthAll (ts.map tdat) ≤ 1 ∧ (PyData.shownAll (ts.map tdat)).length = ts.length ∧ ∀ x ∈ PyData.shownAll (ts.map tdat), x.length ≤ 6000
  | [], _ => ⟨rfl, rfl, Nat.zero_le _, rfl, fun _ h => nomatch h⟩
  | t :: r, h => by
    obtain ⟨a, b, c, d, e⟩ := rdat_all (ts := r) fun x m => h x (List.mem_cons_of_mem _ m)
    have ht := h t (List.mem_cons_self ..)
    obtain ⟨c0, c1, z0, z1⟩ := id ht
    have l1 := log_of c0 c1
    have l2 := log_of z0 z1
    have s1 : (tdat t).showable = true := by
      simp [tdat, PyData.showable, PyData.showableAll]
      omega
    have s2 : (tdat t).hasDict = false := by simp [tdat, PyData.hasDict, PyData.hasDictAll]
    have s3 : (tdat t).depth ≤ 1 := by simp [tdat, PyData.depth, PyData.depthAll]
    refine ⟨?_, ?_, ?_, ?_, ?_⟩
    · rw [List.map_cons, PyData.showableAll, s1, a]
      rfl
    · rw [List.map_cons, PyData.hasDictAll, s2, b]
      rfl
    · rw [List.map_cons, PyData.depthAll]
      omega
    · rw [List.map_cons, PyData.shownAll, List.length_cons, List.length_cons, d]
    · intro x hx
      rw [List.map_cons, PyData.shownAll] at hx
      rcases List.mem_cons.mp hx with rfl | hx
      · exact tdat_len ht
      · exact e x hx
theorem rdat_sho {ts : List Tm} (h : ∀ t ∈ ts, TmL t) (l : ts.length ≤ 12) : Sho (rdat ts) := by
  obtain ⟨a, b, c, d, e⟩ := rdat_all h
  refine ⟨by unfold rdat; rw [PyData.showable, a], by unfold rdat; rw [PyData.hasDict, b], by unfold rdat; rw [PyData.depth]; omega, ?_⟩
  unfold rdat
  rw [PyData.shown]
  have := listText_le e
  rw [d] at this
  rw [sizeLine_eq]
  omega
theorem dp_all {K : PySem.W.Frag} {H : Hp} : ∀ {as : List Addr} {ts : List Tm}, as.length = ts.length → (∀ (i : Nat) (a : Addr) (t : Tm), as[i]? = some a → ts[i]? = some t → H a = some (.tup (tv t))) → DpAll K H (as.map V.ref) (ts.map tdat)
  | [], [], _, _ => .nil
  | a :: as, t :: ts, l, f => .cons (.tup (st_of (f 0 a t rfl rfl)) (.cons (.str _) (.cons (.int _) (.cons (.int _) .nil)))) (dp_all (by simpa using l) fun i b u x y => f (i + 1) b u x y)
  | [], _ :: _, l, _ => by cases l
  | _ :: _, [], l, _ => by cases l
theorem Rul.dp {K : PySem.W.Frag} {H : Hp} {r : Addr} {ts : List Tm} (h : Rul H r ts) : Dp K H (.ref r) (rdat ts) := by
  obtain ⟨as, g, l, f⟩ := h
  exact .lst (sq_of g) (dp_all l f)
theorem rat_cons (t : Tm) (ts : List Tm) (n : Nat) : rat (t :: ts) n = tat t n + rat ts n := by
  unfold rat
  rw [List.map_cons, List.sum_cons]
theorem rat_rev (n : Nat) : ∀ ts : List Tm, rat ts.reverse n = rat ts n
  | [] => rfl
  | t :: ts => by
    rw [List.reverse_cons, rat_snoc, rat_rev n ts, rat_cons]
    omega
theorem tat_sub (w : Nat) (c s z : Int) (n : Nat) : tat ⟨w, c - s, z⟩ n + tat ⟨w, s, z⟩ n = tat ⟨w, c, z⟩ n := by
  unfold tat
  dsimp only
  split
  · rw [Int.sub_mul]
    omega
  · split
    · split
      · rw [Int.sub_mul]
        omega
      · rfl
    · rw [Int.sub_mul]
      omega
theorem rat_split (w : Nat) (c s z : Int) (ts : List Tm) (n : Nat) : rat (⟨w, c - s, z⟩ :: ts ++ [⟨w, s, z⟩]) n = rat (⟨w, c, z⟩ :: ts) n := by
  rw [rat_snoc, rat_cons, rat_cons]
  have := tat_sub w c s z n
  omega
theorem step_rev : ∀ xs : List V, xs.length ≤ 5 → stepV xs none (some (-1)) = xs.reverse
  | [], _ => by kernel_rfl
  | [_], _ => by kernel_rfl
  | [_, _], _ => by kernel_rfl
  | [_, _, _], _ => by kernel_rfl
  | [_, _, _, _], _ => by kernel_rfl
  | [_, _, _, _, _], _ => by kernel_rfl
  | _ :: _ :: _ :: _ :: _ :: _ :: _, h => by simp at h
theorem Rul.rev {H : Hp} {p : Addr} {ts : List Tm} {as : List Addr} (l : as.length = ts.length) (f : ∀ (i : Nat) (a : Addr) (t : Tm), as[i]? = some a → ts[i]? = some t → H a = some (.tup (tv t))) (g : H p = some (.lst (as.map V.ref).reverse)) : Rul H p ts.reverse := by
  refine ⟨as.reverse, by rw [g, List.map_reverse], by rw [List.length_reverse, List.length_reverse, l], fun i a t x y => ?_⟩
  have hi : i < as.length := by
    have := (List.getElem?_eq_some_iff.mp x).1
    rwa [List.length_reverse] at this
  rw [List.getElem?_reverse hi] at x
  rw [List.getElem?_reverse (by omega), ← l] at y
  exact f _ a t x y
theorem tat_small {t : Tm} (h : TmOk t) {n : Nat} (hn : n ≤ 61) : (tat t n).natAbs ≤ 1000000 * 2 ^ 370 := by
  obtain ⟨c0, c1, w2, p, r, s⟩ := h
  have hc : t.c.natAbs ≤ 1000000 := by omega
  unfold tat
  split
  · rename_i h
    have := p h
    rw [Int.natAbs_mul, Int.natAbs_pow]
    refine Nat.mul_le_mul hc (Nat.le_trans (Nat.pow_le_pow_left (show t.z.natAbs ≤ 2 ^ 6 by omega) n) ?_)
    rw [← Nat.pow_mul]
    exact Nat.pow_le_pow_right (by decide) (by omega)
  · split
    · rename_i h
      have := r h
      have e : 300 ≤ 2 ^ 370 := Nat.le_trans (show 300 ≤ 2 ^ 9 by decide) (Nat.pow_le_pow_right (by decide) (by decide))
      split
      · rw [Int.natAbs_mul]
        exact Nat.mul_le_mul hc (Nat.le_trans (show t.z.natAbs ≤ 300 by omega) e)
      · exact Nat.zero_le _
    · have hz := s (by omega)
      rw [Int.natAbs_mul, Int.natAbs_natCast]
      refine Nat.mul_le_mul hc (Nat.le_trans (Nat.pow_le_pow_left (show n ≤ 2 ^ 6 by omega) _) ?_)
      rw [← Nat.pow_mul]
      exact Nat.pow_le_pow_right (by decide) (by omega)
theorem rat_small {n : Nat} (hn : n ≤ 61) : ∀ {ts : List Tm}, (∀ t ∈ ts, TmOk t) → (rat ts n).natAbs ≤ ts.length * (1000000 * 2 ^ 370)
  | [], _ => Nat.zero_le _
  | t :: ts, h => by
    have a := tat_small (h t (List.mem_cons_self ..)) hn
    have b := rat_small hn (ts := ts) fun x m => h x (List.mem_cons_of_mem _ m)
    rw [rat_cons, List.length_cons, Nat.succ_mul]
    exact Nat.le_trans (Int.natAbs_add_le _ _) (by omega)
theorem ruv_wide {ts : List Tm} (h : ∀ t ∈ ts, TmOk t) (l : ts.length ≤ 12) {n : Nat} (hn : n ≤ 60) : wide 1900 (ruv ts n) := by
  refine (wide_lt (k := 420) (by decide) fun x hx => ?_).mono (by decide)
  unfold ruv tabL at hx
  obtain ⟨i, hi, rfl⟩ := List.mem_map.mp hx
  have hi := List.mem_range.mp hi
  have a := rat_small (n := i + 1) (by omega) h
  have b : ts.length * (1000000 * 2 ^ 370) ≤ 12 * (1000000 * 2 ^ 370) := Nat.mul_le_mul_right _ l
  have c : 12 * (1000000 * 2 ^ 370) < 2 ^ 420 := by
    rw [← Nat.mul_assoc, show 420 = 50 + 370 from rfl, Nat.pow_add]
    exact Nat.mul_lt_mul_of_pos_right (by decide) (Nat.pow_pos (by decide))
  omega

open SX
/-! ### texts of terms and rules -/
def brT (n : Int) : List Nat := if n < 0 then 40 :: (numT n ++ [41]) else numT n
def brkT (l : List Nat) : Option Int := if l.take 2 = [40, 45] ∧ l.drop (l.length - 1) = [41] then wholeT ((l.drop 1).take (l.length - 2)) else (match natT l with | some n => some (n : Int) | none => none)
def tmT (t : Tm) : List Nat := if t.w = 0 then brT t.c ++ [32, 42, 32] ++ brT t.z ++ [32, 94, 32, 110] else if t.w = 1 then brT t.c ++ [32, 42, 32, 114, 105, 110, 103, 32] ++ numT t.z else brT t.c ++ [32, 42, 32, 110, 32, 94, 32] ++ numT t.z
def tmW (t : Tm) : List (List Nat) := if t.w = 0 then [brT t.c, [42], brT t.z, [94], [110]] else if t.w = 1 then [brT t.c, [42], [114, 105, 110, 103], numT t.z] else [brT t.c, [42], [110], [94], numT t.z]
def ruleT (ts : List Tm) : List Nat := TL.joinL [32, 43, 32] (ts.map tmT)
theorem tmT_words (t : Tm) : tmT t = TL.joinL [32] (tmW t) := by
  unfold tmT tmW
  split
  · simp [TL.joinL]
  · split
    · simp [TL.joinL]
    · simp [TL.joinL]
theorem brT_free {n : Int} {c : Nat} (h : c ∈ brT n) : c = 40 ∨ c = 41 ∨ c = 45 ∨ (48 ≤ c ∧ c ≤ 57) := by
  unfold brT at h
  split at h
  · rcases List.mem_cons.mp h with h | h
    · exact .inl h
    · rcases List.mem_append.mp h with h | h
      · have := numT_free n c h
        omega
      · have := List.mem_singleton.mp h
        omega
  · have := numT_free n c h
    omega
theorem tmW_free {t : Tm} {l : List Nat} (h : l ∈ tmW t) {c : Nat} (hc : c ∈ l) : c = 40 ∨ c = 41 ∨ c = 42 ∨ c = 45 ∨ c = 94 ∨ (48 ≤ c ∧ c ≤ 57) ∨ (100 ≤ c ∧ c ≤ 120) := by
  have a : ∀ {n : Int} {c : Nat}, c ∈ brT n → c = 40 ∨ c = 41 ∨ c = 42 ∨ c = 45 ∨ c = 94 ∨ (48 ≤ c ∧ c ≤ 57) ∨ (100 ≤ c ∧ c ≤ 120) := fun h => by
    have := brT_free h
    omega
  have b : ∀ {n : Int} {c : Nat}, c ∈ numT n → c = 40 ∨ c = 41 ∨ c = 42 ∨ c = 45 ∨ c = 94 ∨ (48 ≤ c ∧ c ≤ 57) ∨ (100 ≤ c ∧ c ≤ 120) := fun h => by
    have := numT_free _ _ h
    omega
  unfold tmW at h
  split at h
  · simp only [List.mem_cons, List.not_mem_nil, or_false] at h
    rcases h with rfl | rfl | rfl | rfl | rfl
    · exact a hc
    · simp at hc
      omega
    · exact a hc
    · simp at hc
      omega
    · simp at hc
      omega
  · split at h
    · simp only [List.mem_cons, List.not_mem_nil, or_false] at h
      rcases h with rfl | rfl | rfl | rfl
      · exact a hc
      · simp at hc
        omega
      · simp at hc
        omega
      · exact b hc
    · simp only [List.mem_cons, List.not_mem_nil, or_false] at h
      rcases h with rfl | rfl | rfl | rfl | rfl
      · exact a hc
      · simp at hc
        omega
      · simp at hc
        omega
      · simp at hc
        omega
      · exact b hc
theorem split_term (t : Tm) : Txt.split (S (tmT t)) (S [32]) = (tmW t).map S := by
  rw [split_S (by decide) (by decide), tmT_words, spl_join]
  · unfold tmW
    split
    · simp
    · split <;> simp
  · intro p hp hc
    have := tmW_free hp hc
    omega
theorem joinL_mem (sep : List Nat) : ∀ {ps : List (List Nat)} {c : Nat}, c ∈ TL.joinL sep ps → c ∈ sep ∨ ∃ p ∈ ps, c ∈ p
  | [], c, h => by cases h
  | [p], c, h => .inr ⟨p, List.mem_singleton.mpr rfl, h⟩
  | p :: q :: r, c, h => by
    have h' : c ∈ p ++ (sep ++ TL.joinL sep (q :: r)) := h
    rcases List.mem_append.mp h' with h | h
    · exact .inr ⟨p, List.mem_cons_self .., h⟩
    · rcases List.mem_append.mp h with h | h
      · exact .inl h
      · rcases joinL_mem sep h with h | ⟨x, hx, h⟩
        · exact .inl h
        · exact .inr ⟨x, List.mem_cons_of_mem _ hx, h⟩
theorem tmT_no (t : Tm) : 43 ∉ tmT t := fun h => by
  rw [tmT_words] at h
  rcases joinL_mem _ h with h | ⟨p, hp, h⟩
  · simp at h
  · have := tmW_free hp h
    omega
theorem split_rule {ts : List Tm} (h : ts ≠ []) : Txt.split (S (ruleT ts)) (S [32, 43, 32]) = ts.map fun t => S (tmT t) := by
  rw [split_S (by decide) (by decide)]
  unfold ruleT
  rw [spl_plus (by simp [h])]
  · rw [List.map_map]
    rfl
  · intro p hp
    obtain ⟨t, _, rfl⟩ := List.mem_map.mp hp
    exact tmT_no t
theorem join_rule (ts : List Tm) : Txt.join (S [32, 43, 32]) (ts.map fun t => S (tmT t)) = S (ruleT ts) := by
  have := join_S [32, 43, 32] (ts.map tmT)
  rw [List.map_map] at this
  exact this
theorem num_small {n : Int} (h0 : -1000000000 ≤ n) (h1 : n ≤ 1000000000) : (numT n).length ≤ 12 := by
  have e : (10 : Int) ^ 11 = 100000000000 := by decide
  exact numT_len (k := 11) (by decide) (by rw [e]; omega) (by rw [e]; omega)
theorem br_small {n : Int} (h0 : -1000000000 ≤ n) (h1 : n ≤ 1000000000) : (brT n).length ≤ 14 := by
  have := num_small h0 h1
  unfold brT
  split
  · rw [List.length_cons, List.length_append]
    show _ + 1 + 1 ≤ 14
    omega
  · omega
theorem TmOk.zb {t : Tm} (h : TmOk t) : -1000000000 ≤ t.c ∧ t.c ≤ 1000000000 ∧ -1000000000 ≤ t.z ∧ t.z ≤ 1000000000 := by
  obtain ⟨c0, c1, w2, p, r, s⟩ := h
  have w : t.w = 0 ∨ t.w = 1 ∨ t.w = 2 := by omega
  rcases w with w | w | w
  · have := p w
    omega
  · have := r w
    omega
  · have := s w
    omega
theorem tm_small {t : Tm} (h : TmOk t) : (tmT t).length ≤ 40 := by
  obtain ⟨c0, c1, z0, z1⟩ := h.zb
  have a := br_small c0 c1
  have b := br_small z0 z1
  have c := num_small z0 z1
  unfold tmT
  split
  · simp only [List.length_append, List.length_cons, List.length_nil]
    omega
  · split
    · simp only [List.length_append, List.length_cons, List.length_nil]
      omega
    · simp only [List.length_append, List.length_cons, List.length_nil]
      omega
theorem lt1900 {n : Int} (h0 : -1000000000 ≤ n) (h1 : n ≤ 1000000000) : n.natAbs < 2 ^ 1900 := Nat.lt_of_lt_of_le (show n.natAbs < 2 ^ 40 by omega) (Nat.pow_le_pow_right (by decide) (by decide))
theorem ev_strN {σ : L2.St} {H : Hp} {te : TE} {n : Int} (h : Ev te σ H (.int n)) (h0 : -1000000000 ≤ n) (h1 : n ≤ 1000000000) : Ev (tCB (fun xs H Q => ∃ i, xs = [V.int i] ∧ i.natAbs.log2 < 1920 ∧ Q (.str (toString i)) H) (tCons te tNil)) σ H (.str (S (numT n))) := ev_is (ev_strI h (log_num (lt1900 h0 h1))) (congrArg V.str (str_num n))
theorem br_neg {n : Int} (h : n < 0) : brT n = 40 :: (numT n ++ [41]) := by
  unfold brT
  rw [if_pos h]
theorem br_pos {n : Int} (h : ¬ n < 0) : brT n = numT n := by
  unfold brT
  rw [if_neg h]
theorem numT_pos {n : Int} (h : 0 ≤ n) : numT n = TL.numL n.natAbs := by
  unfold numT
  rw [if_neg (by omega)]
theorem natT_int {n : Int} (h : 0 ≤ n) : optN (natT (numT n)) = .int n := by
  rw [numT_pos h, natT_num]
  show V.int (n.natAbs : Int) = _
  congr 1
  omega
theorem brkT_num (n : Int) : brkT (brT n) = some n := by
  unfold brkT
  by_cases h : n < 0
  · have e : brT n = 40 :: (numT n ++ [41]) := by
      unfold brT
      rw [if_pos h]
    have e2 : numT n = 45 :: TL.numL n.natAbs := by
      unfold numT
      rw [if_pos h]
    have e3 : (brT n).length = (numT n).length + 2 := by
      rw [e, List.length_cons, List.length_append]
      rfl
    have c1 : (brT n).take 2 = [40, 45] := by
      rw [e, e2]
      rfl
    have c2 : (brT n).drop ((brT n).length - 1) = [41] := by
      rw [e3, show (numT n).length + 2 - 1 = (numT n).length + 1 by omega, e, List.drop_succ_cons, List.drop_left]
    have c3 : ((brT n).drop 1).take ((brT n).length - 2) = numT n := by
      rw [e3, show (numT n).length + 2 - 2 = (numT n).length by omega, e, List.drop_succ_cons, List.drop_zero, List.take_left]
    rw [if_pos ⟨c1, c2⟩, c3, wholeT_num]
  · have e : brT n = TL.numL n.natAbs := by
      unfold brT
      rw [if_neg h, numT_pos (by omega)]
    rw [e, if_neg, natT_num]
    · show some ((n.natAbs : Nat) : Int) = some n
      congr 1
      omega
    · rintro ⟨z, _⟩
      cases e2 : TL.numL n.natAbs with
      | nil => exact TL.numL_ne _ e2
      | cons c r =>
        rw [e2] at z
        have : c = 40 := by
          cases r with
          | nil => simp at z
          | cons d r =>
            simp only [List.take_succ_cons, List.cons.injEq] at z
            exact z.1
        have := TL.numL_digits n.natAbs c (by rw [e2]; exact List.mem_cons_self ..)
        omega
theorem ends_S {l : List Nat} (c : Nat) : Txt.endswith (S l) (S [c]) = (l.drop (l.length - 1) == [c]) := by
  unfold Txt.endswith
  rw [PySem.StrLaws.subAt_eq, S_len, S_len]
  show (decide (0 + 1 ≤ l.length) && ((l.drop (l.length - 1)).take 1 == [c])) = _
  by_cases h : 1 ≤ l.length
  · rw [decide_eq_true (by omega), Bool.true_and, List.take_of_length_le (by rw [List.length_drop]; omega)]
  · rw [decide_eq_false (by omega), Bool.false_and, List.drop_eq_nil_of_le (by omega)]
    rfl
theorem cut_inner {l : List Nat} (h : 2 ≤ l.length) : cutS (S l) (some 1) (some (-1)) = S ((l.drop 1).take (l.length - 2)) := by
  unfold cutS
  have e1 : HT.sIx (S l).length 0 (some 1) = 1 := by
    rw [S_len]
    show (if (1 : Int) < 0 then ((1 : Int) + (l.length : Int)).toNat else min (1 : Int).toNat l.length) = 1
    rw [if_neg (by decide)]
    show min 1 l.length = 1
    omega
  have e2 : HT.sIx (S l).length (S l).length (some (-1)) = l.length - 1 := by
    rw [S_len]
    show (if (-1 : Int) < 0 then ((-1 : Int) + (l.length : Int)).toNat else min (-1 : Int).toNat l.length) = l.length - 1
    rw [if_pos (by decide)]
    omega
  rw [e1, e2]
  refine TL.ext_tl ?_
  show (l.drop 1).take (l.length - 1 - 1) = (l.drop 1).take (l.length - 2)
  rw [show l.length - 1 - 1 = l.length - 2 by omega]
theorem given_mapD {α : Type} (ts : List α) (f : α → List Nat) : given ts.length (fun _ => true) (fun i => V.str (S ((ts[i]?.map f).getD []))) = ts.map fun t => V.str (S (f t)) := by
  rw [given_all]
  refine List.ext_getElem (by simp) fun i h1 h2 => ?_
  simp at h1
  simp [h1]
theorem step_rev12 : ∀ xs : List V, xs.length ≤ 12 → stepV xs none (some (-1)) = xs.reverse
  | [], _ => by kernel_rfl
  | [_], _ => by kernel_rfl
  | [_, _], _ => by kernel_rfl
  | [_, _, _], _ => by kernel_rfl
  | [_, _, _, _], _ => by kernel_rfl
  | [_, _, _, _, _], _ => by kernel_rfl
  | [_, _, _, _, _, _], _ => by kernel_rfl
  | [_, _, _, _, _, _, _], _ => by kernel_rfl
  | [_, _, _, _, _, _, _, _], _ => by kernel_rfl
  | [_, _, _, _, _, _, _, _, _], _ => by kernel_rfl
  | [_, _, _, _, _, _, _, _, _, _], _ => by kernel_rfl
  | [_, _, _, _, _, _, _, _, _, _, _], _ => by kernel_rfl
  | [_, _, _, _, _, _, _, _, _, _, _, _], _ => by kernel_rfl
  | _ :: _ :: _ :: _ :: _ :: _ :: _ :: _ :: _ :: _ :: _ :: _ :: _ :: _, h => by simp at h
theorem Rul.drop {H : Hp} {as : List Addr} {ts : List Tm} (l : as.length = ts.length) (f : ∀ (i : Nat) (a : Addr) (t : Tm), as[i]? = some a → ts[i]? = some t → H a = some (.tup (tv t))) (k : Nat) : (as.drop k).length = (ts.drop k).length ∧ ∀ (i : Nat) (a : Addr) (t : Tm), (as.drop k)[i]? = some a → (ts.drop k)[i]? = some t → H a = some (.tup (tv t)) :=
  ⟨by rw [List.length_drop, List.length_drop, l], fun i a t x y => f (k + i) a t (by rw [List.getElem?_drop] at x; exact x) (by rw [List.getElem?_drop] at y; exact y)⟩
theorem Rul.revf {H : Hp} {as : List Addr} {ts : List Tm} (l : as.length = ts.length) (f : ∀ (i : Nat) (a : Addr) (t : Tm), as[i]? = some a → ts[i]? = some t → H a = some (.tup (tv t))) : as.reverse.length = ts.reverse.length ∧ ∀ (i : Nat) (a : Addr) (t : Tm), as.reverse[i]? = some a → ts.reverse[i]? = some t → H a = some (.tup (tv t)) := by
  refine ⟨by rw [List.length_reverse, List.length_reverse, l], fun i a t x y => ?_⟩
  have hi : i < as.length := by
    have := (List.getElem?_eq_some_iff.mp x).1
    rwa [List.length_reverse] at this
  rw [List.getElem?_reverse hi] at x
  rw [List.getElem?_reverse (by omega), ← l] at y
  exact f _ a t x y
theorem ruleT_one (t : Tm) : ruleT [t] = tmT t := rfl
theorem ruleT_111 : ruleT [⟨0, 1, 1⟩] = [49, 32, 42, 32, 49, 32, 94, 32, 110] := by
  have e : numT 1 = [49] := by
    rw [numT_pos (by decide), TL.numL_lt (by decide)]
    rfl
  show brT 1 ++ [32, 42, 32] ++ brT 1 ++ [32, 94, 32, 110] = _
  rw [br_pos (by decide), e]
  rfl
theorem cut_oneV {xs : List V} {j : Nat} {x : V} (h : xs[j]? = some x) : cutV xs (some (j : Int)) (some ((j : Int) + 1)) = [x] := by
  have hj := (List.getElem?_eq_some_iff.mp h).1
  have hx := (List.getElem?_eq_some_iff.mp h).2
  unfold cutV
  rw [show (j : Int) + 1 = ((j + 1 : Nat) : Int) from rfl, HT.sIx_nat, HT.sIx_nat, Nat.min_eq_left (by omega), Nat.min_eq_left (by omega), show j + 1 - j = 1 by omega, List.drop_eq_getElem_cons hj, hx]
  rfl
def RetR (ts : List Tm) (H : Hp) (Q : VK) : Prop := ∀ r H2, H r = none → Ex H H2 → Rul H2 r ts → Q (.ref r) H2
def SpR (sp : Sp) (vs : List V) (H : Hp) (ts : List Tm) : Prop := ∀ H1, Ex H H1 → ∀ Q : VK, RetR ts H1 Q → ∀ E : XK, sp vs H1 Q E
def EvR (te : TE) (σ : L2.St) (H : Hp) (ts : List Tm) : Prop := ∀ H1, Ex H H1 → ∀ Q : VK, RetR ts H1 Q → te σ H1 Q
section
variable {K : PySem.W.Frag} {σ : L2.St} {H : Hp} {te ta tb : TE} {t tk : TA} {ts : List Tm} {sp : Sp} {E : XK} {us zs : List V} {D : Ends} {tz : TS}
theorem er_call (h : EvA t σ H us) (hs : SpR sp (us ++ []) H ts) : EvR (tCall sp [] E t) σ H ts := fun H1 e Q q => h H1 e _ fun H2 e2 => hs H2 (e.trans e2) Q (fun r H3 hr e3 R => q r H3 (fresh_back e2 hr) (e2.trans e3) R) E
theorem er_callK {gV : List V → List V → List V} (h : EvA t σ H us) (h' : EvA tk σ H zs) (hs : SpR sp (gV us zs) H ts) : EvR (tCallK sp gV E t tk) σ H ts := fun H1 e Q q => h H1 e _ fun H2 e2 => h' H2 (e.trans e2) _ fun H3 e3 => hs H3 ((e.trans e2).trans e3) Q (fun r H4 hr e4 R => q r H4 (fresh_back (e2.trans e3) hr) ((e2.trans e3).trans e4) R) E
theorem q_asgR {i : Nat} (h : EvR te σ H ts) (k : ∀ r H1, H r = none → Ex H H1 → Rul H1 r ts → tz D (σ.set i (some (.ref r))) H1) : tSeq (tAsg te (gName i)) tz D σ H := h H (Ex.refl H) _ k
theorem er_lst1 {x : Tm} (h : EvU te σ H (tv x)) : EvR (tLst (tCons te tNil)) σ H [x] := fun H1 e Q q => h H1 e _ fun u H2 hu e2 g => ⟨sz_of (by show 1 ≤ 100000; decide), fun p hp => q p _ (fresh_back e2 hp) (e2.trans (Ex.new hp)) ⟨[u], upd_same, rfl, fun i b t x y => by
  match i, x, y with
  | 0, x, y =>
    cases x
    cases y
    exact (Ex.new hp) _ _ g
  | i + 1, x, y => cases x⟩⟩
theorem er_refs {bs : List Addr} (h : EvL te σ H (bs.map V.ref)) (l : bs.length = ts.length) (f : ∀ (i : Nat) (b : Addr) (t : Tm), bs[i]? = some b → ts[i]? = some t → H b = some (.tup (tv t))) : EvR te σ H ts := fun H1 e Q q => h H1 e _ fun p H2 hp e2 g => q p H2 hp e2 ⟨bs, g, l, fun i b t x y => (e.trans e2) _ _ (f i b t x y)⟩
theorem ev_callR {z : V} (h : EvR te σ H ts) (hs : ∀ r H1, Ex H H1 → Rul H1 r ts → SpV sp [.ref r] H1 z) : Ev (tCall sp [] E (tCons te tNil)) σ H z := fun H1 e Q q => h H1 e _ fun r H2 _ e2 R => hs r H2 (e.trans e2) R H2 (Ex.refl H2) Q (fun H3 e3 => q H3 (e2.trans e3)) E
theorem ed_R (h : EvR te σ H ts) : EvD K te σ H (rdat ts) := fun H1 e Q q => h H1 e _ fun r H2 hr e2 R => q _ H2 e2 R.dp
theorem ed_Rv {r : Addr} (h : Ev te σ H (.ref r)) (R : Rul H r ts) : EvD K te σ H (rdat ts) := ep_V h fun H1 e => (R.ex e).dp
end
theorem rdat_ok {ts : List Tm} (h : ∀ t ∈ ts, TmOk t) (l : ts.length ≤ 12) : Sho (rdat ts) := rdat_sho (fun t m => (h t m).zb) l
theorem kn_ok (w : Nat) : PyData.strOk (kn w) = true := by
  unfold kn
  split
  · exact strOk_of _
  · split
    · exact strOk_of _
    · exact strOk_of _
theorem rdat_can : ∀ ts : List Tm, PyData.canLayAll0 (ts.map tdat) = true ∧ PyData.depthAll (ts.map tdat) ≤ 1
  | [] => ⟨rfl, Nat.zero_le _⟩
  | t :: ts => by
    obtain ⟨a, b⟩ := rdat_can ts
    have s1 : (tdat t).canLay0 = true := by simp [tdat, PyData.canLay0, PyData.canLayAll0, kn_ok]
    have s3 : (tdat t).depth ≤ 1 := by simp [tdat, PyData.depth, PyData.depthAll]
    constructor
    · rw [List.map_cons, PyData.canLayAll0, s1, a]
      rfl
    · rw [List.map_cons, PyData.depthAll]
      omega
theorem rdat_shaped (ts : List Tm) : SeqAt.shaped (rdat ts) = true := by
  obtain ⟨a, b⟩ := rdat_can ts
  unfold SeqAt.shaped rdat
  rw [PyData.canLay0, PyData.depth, a, decide_eq_true (by omega)]
  rfl
theorem eqv_self_terms : ∀ ts : List Tm, PyData.eqvAll (ts.map tdat) (ts.map tdat) = true
  | [] => rfl
  | t :: ts => by
    rw [List.map_cons, PyData.eqvAll, eqv_self_terms ts]
    simp [tdat, PyData.eqv, PyData.eqvAll]
theorem eqv_rdat_self (ts : List Tm) : PyData.eqv (rdat ts) (rdat ts) = true := by
  unfold rdat
  rw [PyData.eqv, eqv_self_terms]
section
variable {K : PySem.W.Frag} {σ : L2.St} {H : Hp} {te ta tb : TE}
theorem rv_neR {r s : Addr} {ts : List Tm} (h : Rul H r ts) (h' : Rul H s ts) : RV (rNeD K) (.ref r) (.ref s) H (.bl false) := fun H1 e Q k =>
  ⟨rdat ts, rdat ts, (h.ex e).dp, (h'.ex e).dp, rdat_shaped ts, rdat_shaped ts, by rw [eqv_rdat_self]; exact k H1 (Ex.refl H1)⟩
end
theorem rule_sum {ts : List Tm} (ok : ∀ t ∈ ts, TmOk t) : ((ts.map fun t => S (tmT t)).map (·.length)).sum ≤ ts.length * 40 := by
  have e := PySem.StrLaws.sumLen_le (B := 40) (ts.map fun t => S (tmT t)) fun y hy => by
    obtain ⟨t, ht, rfl⟩ := List.mem_map.mp hy
    rw [S_len]
    exact tm_small (ok t ht)
  rw [List.length_map] at e
  exact e
theorem rule_fits {ts : List Tm} (ok : ∀ t ∈ ts, TmOk t) (l : ts.length ≤ 100) : ((ts.map fun t => S (tmT t)).map (·.length)).sum + (ts.map fun t => S (tmT t)).length * (S [32, 43, 32]).length ≤ 16777216 := by
  have e := rule_sum ok
  rw [List.length_map, S_len]
  show _ + ts.length * 3 ≤ _
  omega
theorem rule_len {ts : List Tm} (ok : ∀ t ∈ ts, TmOk t) (l : ts.length ≤ 100) : (ruleT ts).length ≤ 4300 := by
  have e := joinL_len [32, 43, 32] (ts.map tmT)
  have e2 := rule_sum ok
  rw [List.map_map] at e2
  have e3 : ((ts.map tmT).map (·.length)).sum = (ts.map ((·.length) ∘ fun t => S (tmT t))).sum := by
    rw [List.map_map]
    congr 1
  rw [e3, List.length_map] at e
  have e4 : ([32, 43, 32] : List Nat).length = 3 := rfl
  rw [e4] at e
  unfold ruleT
  omega
theorem refs_at {as : List Addr} {i : Nat} {x : V} (h : (as.map V.ref)[i]? = some x) : ∃ b, x = .ref b ∧ as[i]? = some b := by
  rw [List.getElem?_map] at h
  cases hg : as[i]? with
  | none =>
    rw [hg] at h
    cases h
  | some b =>
    rw [hg] at h
    cases h
    exact ⟨b, rfl, rfl⟩
/-- the texts of the terms of a rule, by any writer of a term -/
theorem el_texts {K : PySem.W.Frag} {σ : L2.St} {H : Hp} {tl te : TE} {r : Addr} {ts : List Tm} {j : Nat} {vs : List Nat} (R : Rul H r ts) (l : ts.length ≤ 100) (h : Ev tl σ H (.ref r)) (hw : ∀ x, wipe ((wipe σ vs).set j (some x)) vs = wipe σ vs)
    (he : ∀ (b : Addr) (t : Tm) H1, Ex H H1 → t ∈ ts → H1 b = some (.tup (tv t)) → Ev te ((wipe σ vs).set j (some (.ref b))) H1 (.str (S (tmT t)))) :
    EvL (tLc (iList K tl) (gName j) tYes te vs) σ H ((ts.map fun t => S (tmT t)).map V.str) := by
  obtain ⟨as, g, la, f⟩ := R
  refine el_is (el_lcL (fun _ => true) (fun i => V.str (S ((ts[i]?.map tmT).getD []))) h (sq_of g) (by rw [List.length_map]; omega) hw (fun _ _ _ _ _ => et_yes) ?_) ?_
  · intro i x H2 e2 hx _
    obtain ⟨b, rfl, hb⟩ := refs_at hx
    have hi := (List.getElem?_eq_some_iff.mp hb).1
    have hi' : i < ts.length := by omega
    have ht : ts[i]? = some (ts[i]'hi') := List.getElem?_eq_getElem _
    rw [ht]
    exact he b _ H2 e2 (List.getElem_mem _) (e2 _ _ (f i b _ hb ht))
  · rw [List.length_map, la, given_mapD ts tmT, List.map_map]
    rfl
/-- a list of drawn terms -/
theorem ewr_lc {a : Addr} {d1 d2 N n : Nat} {σ : L2.St} {H : Hp} {te to' : TE} {P : Int → Prop} {j : Nat} {vs : List Nat} (h : EvW a d1 te σ H (fun v => ∃ r, v = .int r ∧ P r)) (hP : ∀ r, P r → 0 ≤ r ∧ r ≤ N) (hN : N ≤ 40000) (hw : ∀ x, wipe ((wipe σ vs).set j (some x)) vs = wipe σ vs)
    (he : ∀ (i : Nat) (n : Nat) H1, But a H H1 → Well H1 a n → n + d2 ≤ 2 ^ 50 → ∀ Q : VK, (∀ p t H2, H1 p = none → But a H1 H2 → Well H2 a (n + d2) → H2 p = some (.tup (tv t)) → TmOk t → Q (.ref p) H2) → to' ((wipe σ vs).set j (some (.int (i : Int)))) H1 Q)
    (w : Well H a n) (l : n + (d1 + N * d2) ≤ 2 ^ 50) (Q : VK) (q : ∀ r ts H2, H r = none → But a H H2 → Well H2 a (n + (d1 + N * d2)) → Rul H2 r ts → P ts.length → (∀ t ∈ ts, TmOk t) → Q (.ref r) H2) : tLc (iRng1 (tCons te tNil)) (gName j) tYes to' vs σ H Q :=
  h n H (But.refl a H) w (by omega) _ fun v H1 b1 w1 ⟨r, er, pr⟩ => by
    subst er
    obtain ⟨r0, r1⟩ := hP r pr
    obtain ⟨m, rfl⟩ : ∃ m : Nat, r = m := ⟨r.toNat, by omega⟩
    have mle : m * d2 ≤ N * d2 := Nat.mul_le_mul_right _ (by omega)
    refine ⟨(m : Int), rfl, by omega, by omega, fun Dl hD => ?_⟩
    have nD : Dl ≠ a := w1.ne hD
    refine lc_range (lo := 0) (n := (m : Int).toNat) (fun i H' => But a H1 H' ∧ Well H' a (n + d1 + i * d2) ∧ ∃ (as : List Addr) (ts : List Tm), H' Dl = some (.lst (as.map .ref)) ∧ as.length = ts.length ∧ (∀ (k : Nat) (b : Addr) (t : Tm), as[k]? = some b → ts[k]? = some t → H' b = some (.tup (tv t))) ∧ ts.length = i ∧ ∀ t ∈ ts, TmOk t) ⟨But.new hD, ?_, [], [], upd_same, rfl, (fun _ _ _ h => nomatch h), rfl, fun x hx => nomatch hx⟩ (fun i H' hi p => ?_) (fun H' p => ?_)
    · rw [Nat.zero_mul, Nat.add_zero]
      exact w1.ex (Ex.new hD)
    · have e0 : (0 : Int) + (i : Int) = (i : Int) := Int.zero_add _
      show wipe ((wipe σ vs).set j (some (.int ((0 : Int) + (i : Int))))) vs = wipe σ vs ∧ tYes ((wipe σ vs).set j (some (.int ((0 : Int) + (i : Int))))) H' fun b H3 => if b = true then to' ((wipe σ vs).set j (some (.int ((0 : Int) + (i : Int))))) H3 fun y H4 => ∃ acc, H4 Dl = some (.lst acc) ∧ acc.length < sizeLine ∧ _ else _
      rw [e0]
      obtain ⟨p1, p2, as, ts, p3, la, pf, lt, ok⟩ := p
      have hi' : i < m := by omega
      have ile : i * d2 + d2 ≤ m * d2 := by
        rw [← Nat.succ_mul]
        exact Nat.mul_le_mul_right _ hi'
      refine ⟨hw _, et_yes H' (Ex.refl H') _ fun H3 e3 => ?_⟩
      have w3 := p2.ex e3
      obtain ⟨xa, ga⟩ := well_lst w3
      refine iteT (he i (n + d1 + i * d2) H3 ((b1.trans p1).trans (But.ex e3)) w3 (by omega) _ fun u t H4 hu b4 w4 gu okt => ?_)
      have gD := b4 _ _ nD (e3 _ _ p3)
      have up := tup_lst gu gD
      refine ⟨as.map .ref, gD, sz_lt (by rw [List.length_map]; omega), ((p1.trans (But.ex e3)).trans b4).own hD, ?_, as ++ [u], ts ++ [t], by rw [upd_same, List.map_append]; rfl, by rw [List.length_append, List.length_append, la]; rfl, fun k b t' hb ht => ?_, by rw [List.length_append, lt]; rfl, fun t' m => ?_⟩
      · obtain ⟨x, y', c, q1, q2⟩ := w4
        refine ⟨x, y', c, by rw [upd_ne (Ne.symm nD)]; exact q1, ?_⟩
        rw [Nat.succ_mul]
        obtain ⟨q2, q3, q4, q5⟩ := q2
        exact ⟨q2, q3, q4, by omega⟩
      · by_cases c : k < as.length
        · rw [List.getElem?_append_left c] at hb
          rw [List.getElem?_append_left (by omega)] at ht
          have gb := e3 _ _ (pf k b t' hb ht)
          rw [upd_ne (tup_lst (b4 _ _ (tup_lst gb ga) gb) gD)]
          exact b4 _ _ (tup_lst gb ga) gb
        · rw [List.getElem?_append_right (by omega)] at hb ht
          have hj := (List.getElem?_eq_some_iff.mp hb).1
          have e0 : k - as.length = 0 := by
            simp at hj
            omega
          rw [e0] at hb
          rw [show k - ts.length = 0 by omega] at ht
          cases hb
          cases ht
          rw [upd_ne up]
          exact gu
      · rcases List.mem_append.mp m with m | m
        · exact ok t' m
        · rw [List.mem_singleton.mp m]
          exact okt
    · obtain ⟨p1, p2, as, ts, p3, la, pf, lt, ok⟩ := p
      rw [Int.toNat_natCast] at p2 lt
      exact q Dl ts H' (but_free b1 w1 hD) (b1.trans p1) (p2.mono (by omega)) ⟨as, p3, la, pf⟩ (by rw [lt]; exact pr) ok

/-! ### what any text says -/
def natI (l : List Nat) : Option Int := match natT l with | some n => some (n : Int) | none => none
theorem optI_natI (l : List Nat) : optI (natI l) = optN (natT l) := by
  unfold natI
  cases natT l <;> rfl
def tmB (kd : Str) (c z : Option Int) : Bool := inZ c (-1000000) 1000000 && ((decide (kd = "power") && inZ z (-40) 40) || ((decide (kd = "ring") && inZ z 1 300) || (decide (kd = "places") && inZ z 1 6)))
def B1 (ws : List (List Nat)) : Bool := decide (ws.length = 5) && (decide (ws.getD 1 [] = [42]) && decide (ws.drop 3 = [[94], [110]]))
def B2 (ws : List (List Nat)) : Bool := decide (ws.length = 4) && decide ((ws.drop 1).take 2 = [[42], [114, 105, 110, 103]])
def B3 (ws : List (List Nat)) : Bool := decide (ws.length = 5) && decide ((ws.drop 1).take 3 = [[42], [110], [94]])
def rdW (ws : List (List Nat)) : Option (Nat × Option Int × Option Int) :=
  if B1 ws = true then some (0, brkT (ws.getD 0 []), brkT (ws.getD 2 [])) else if B2 ws = true then some (1, brkT (ws.getD 0 []), natI (ws.getD 3 [])) else if B3 ws = true then some (2, brkT (ws.getD 0 []), natI (ws.getD 4 [])) else none
def rdT (l : List Nat) : Option (Nat × Option Int × Option Int) := rdW (prts [32] l)
def rdB (o : Option (Nat × Option Int × Option Int)) : Bool := match o with | none => false | some (w, c, z) => tmB (kn w) c z
def readT (l : List Nat) : Option Tm := match rdT l with | some (w, some c, some z) => if tmB (kn w) (some c) (some z) = true then some ⟨w, c, z⟩ else none | _ => none
/-- a value that stands for what a text says -/
def RTv (v : V) (H : Hp) (o : Option (Nat × Option Int × Option Int)) : Prop := match o with | none => v = .non | some (w, c, z) => ∃ p, v = .ref p ∧ H p = some (.tup [.str (kn w), optI c, optI z])
theorem RTv.ex {v : V} {H H' : Hp} {o : Option (Nat × Option Int × Option Int)} (h : RTv v H o) (e : Ex H H') : RTv v H' o := by
  match o, h with
  | none, h => exact h
  | some (w, c, z), ⟨p, a, b⟩ => exact ⟨p, a, e _ _ b⟩
/-- what is_term is asked: a value, and what it answers -/
def JT (K : PySem.W.Frag) (H : Hp) (x : V) (b : Bool) : Prop := (∃ (a : Addr) (kd : Str) (cv zv : V) (co zo : Option Int), x = .ref a ∧ SqT K H a [.str kd, cv, zv] ∧ NV H cv co ∧ NV H zv zo ∧ b = tmB kd co zo) ∨
  (b = false ∧ ((∃ m, x = .int m) ∨ x = .non ∨ (∃ c, x = .bl c) ∨ (∃ s, x = .str s) ∨ (∃ a xs, x = .ref a ∧ SqL K H a xs) ∨ (∃ a kvs, x = .ref a ∧ H a = some (.dK kvs)) ∨ (∃ a xs, x = .ref a ∧ SqT K H a xs ∧ xs.length ≠ 3) ∨
    (∃ a k c z, x = .ref a ∧ SqT K H a [k, c, z] ∧ ((∃ m, k = .int m) ∨ k = .non ∨ (∃ c, k = .bl c) ∨ (∃ b xs, k = .ref b ∧ SqL K H b xs) ∨ (∃ b xs, k = .ref b ∧ SqT K H b xs)))))
theorem RTv.jt {K : PySem.W.Frag} {v : V} {H : Hp} {o : Option (Nat × Option Int × Option Int)} (h : RTv v H o) : JT K H v (rdB o) := by
  match o, h with
  | none, h => exact .inr ⟨rfl, .inr (.inl h)⟩
  | some (w, c, z), ⟨p, a, b⟩ => exact .inl ⟨p, kn w, optI c, optI z, c, z, a, st_of b, nv_opt c, nv_opt z, rfl⟩
theorem jt_tm {K : PySem.W.Frag} {H : Hp} {a : Addr} {t : Tm} (h : SqT K H a (tv t)) : JT K H (.ref a) (tmB (kn t.w) (some t.c) (some t.z)) := .inl ⟨a, kn t.w, .int t.c, .int t.z, some t.c, some t.z, rfl, h, rfl, rfl, rfl⟩
theorem kn_w {w : Nat} (h : w < 3) : (kn w = "power" ↔ w = 0) ∧ (kn w = "ring" ↔ w = 1) ∧ (kn w = "places" ↔ w = 2) := by
  match w, h with
  | 0, _ => exact ⟨⟨fun _ => rfl, fun _ => rfl⟩, ⟨fun h => absurd h (by decide), fun h => absurd h (by decide)⟩, ⟨fun h => absurd h (by decide), fun h => absurd h (by decide)⟩⟩
  | 1, _ => exact ⟨⟨fun h => absurd h (by decide), fun h => absurd h (by decide)⟩, ⟨fun _ => rfl, fun _ => rfl⟩, ⟨fun h => absurd h (by decide), fun h => absurd h (by decide)⟩⟩
  | 2, _ => exact ⟨⟨fun h => absurd h (by decide), fun h => absurd h (by decide)⟩, ⟨fun h => absurd h (by decide), fun h => absurd h (by decide)⟩, ⟨fun _ => rfl, fun _ => rfl⟩⟩
  | w + 3, h => exact absurd h (by omega)
theorem tmB_iff {w : Nat} {c z : Int} (h : w < 3) : tmB (kn w) (some c) (some z) = true ↔ TmOk ⟨w, c, z⟩ := by
  obtain ⟨k0, k1, k2⟩ := kn_w h
  unfold tmB inZ
  simp only [Bool.and_eq_true, Bool.or_eq_true, decide_eq_true_eq, k0, k1, k2]
  constructor
  · rintro ⟨⟨c0, c1⟩, hz⟩
    refine ⟨c0, c1, h, fun (e : w = 0) => ?_, fun (e : w = 1) => ?_, fun (e : w = 2) => ?_⟩
    · show -40 ≤ z ∧ z ≤ 40
      omega
    · show 1 ≤ z ∧ z ≤ 300
      omega
    · show 1 ≤ z ∧ z ≤ 6
      omega
  · rintro ⟨c0, c1, _, p, r, s⟩
    refine ⟨⟨c0, c1⟩, ?_⟩
    have hp : w = 0 → -40 ≤ z ∧ z ≤ 40 := p
    have hr : w = 1 → 1 ≤ z ∧ z ≤ 300 := r
    have hs : w = 2 → 1 ≤ z ∧ z ≤ 6 := s
    omega
theorem rdW_w {ws : List (List Nat)} {w : Nat} {c z : Option Int} (h : rdW ws = some (w, c, z)) : w < 3 := by
  unfold rdW at h
  split at h
  · cases h
    decide
  · split at h
    · cases h
      decide
    · split at h
      · cases h
        decide
      · cases h
theorem readT_ok {l : List Nat} {t : Tm} (h : readT l = some t) : TmOk t ∧ rdT l = some (t.w, some t.c, some t.z) ∧ rdB (rdT l) = true := by
  unfold readT at h
  split at h
  · rename_i w c z e
    split at h
    · rename_i hb
      cases h
      refine ⟨(tmB_iff (rdW_w e)).mp hb, e, ?_⟩
      rw [e]
      exact hb
    · cases h
  · cases h
theorem readT_no {l : List Nat} (h : readT l = none) : rdB (rdT l) = false := by
  unfold readT at h
  split at h
  · rename_i w c z e
    split at h
    · cases h
    · rename_i hb
      rw [e]
      exact Bool.not_eq_true _ ▸ hb
  · rename_i hn
    match e : rdT l with
    | none => rfl
    | some (w, none, z) => rfl
    | some (w, some c, none) =>
      show tmB (kn w) (some c) none = false
      unfold tmB inZ
      simp
    | some (w, some c, some z) => exact absurd e (hn w c z)
theorem prts_term (t : Tm) : prts [32] (tmT t) = tmW t := by
  have e := split_term t
  rw [prts_S (by decide) (by decide)] at e
  have e2 := congrArg (List.map TL.tl) e
  rw [List.map_map, List.map_map, show (TL.tl ∘ S) = id from rfl, List.map_id, List.map_id] at e2
  exact e2
theorem readT_tm {t : Tm} (ok : TmOk t) : readT (tmT t) = some t := by
  have key : rdT (tmT t) = some (t.w, some t.c, some t.z) := by
    obtain ⟨w, c, z⟩ := t
    have w2 : w < 3 := ok.w2
    have hr : w = 1 → 1 ≤ z ∧ z ≤ 300 := ok.r
    have hs : w = 2 → 1 ≤ z ∧ z ≤ 6 := ok.s
    have nz : ∀ {z : Int}, 0 ≤ z → natI (numT z) = some z := fun {z} h => by
      unfold natI
      rw [numT_pos h, natT_num]
      show some ((z.natAbs : Nat) : Int) = some z
      congr 1
      omega
    unfold rdT
    rw [prts_term]
    match w, w2 with
    | 0, _ =>
      have e : tmW ⟨0, c, z⟩ = [brT c, [42], brT z, [94], [110]] := rfl
      have b : B1 [brT c, [42], brT z, [94], [110]] = true := rfl
      rw [e]
      unfold rdW
      rw [if_pos b]
      show some (0, brkT (brT c), brkT (brT z)) = _
      rw [brkT_num, brkT_num]
    | 1, _ =>
      have e : tmW ⟨1, c, z⟩ = [brT c, [42], [114, 105, 110, 103], numT z] := rfl
      have b : B1 [brT c, [42], [114, 105, 110, 103], numT z] = false := rfl
      have b2 : B2 [brT c, [42], [114, 105, 110, 103], numT z] = true := rfl
      rw [e]
      unfold rdW
      rw [if_neg (by rw [b]; exact Bool.false_ne_true), if_pos b2]
      show some (1, brkT (brT c), natI (numT z)) = _
      rw [brkT_num, nz (by have := hr rfl; omega)]
    | 2, _ =>
      have e : tmW ⟨2, c, z⟩ = [brT c, [42], [110], [94], numT z] := rfl
      have nn : numT z ≠ [110] := fun h => by
        have := numT_free z 110 (by rw [h]; exact List.mem_singleton.mpr rfl)
        omega
      have b : B1 [brT c, [42], [110], [94], numT z] = false := by
        unfold B1
        rw [show decide (([brT c, [42], [110], [94], numT z] : List (List Nat)).drop 3 = [[94], [110]]) = false from decide_eq_false fun h => nn (by
          have h' : ([[94], numT z] : List (List Nat)) = [[94], [110]] := h
          injection h' with _ h'
          injection h')]
        rfl
      have b2 : B2 [brT c, [42], [110], [94], numT z] = false := rfl
      have b3 : B3 [brT c, [42], [110], [94], numT z] = true := rfl
      rw [e]
      unfold rdW
      rw [if_neg (by rw [b]; exact Bool.false_ne_true), if_neg (by rw [b2]; exact Bool.false_ne_true), if_pos b3]
      show some (2, brkT (brT c), natI (numT z)) = _
      rw [brkT_num, nz (by have := hs rfl; omega)]
    | w + 3, h => exact absurd h (by omega)
  unfold readT
  rw [key]
  exact if_pos ((tmB_iff ok.w2).mpr ok)
theorem prts_row {ns : List Int} (h : ns ≠ []) : prts [44, 32] (rowT ns) = ns.map numT := by
  have e := split_row h
  rw [prts_S (by decide) (by decide)] at e
  have e2 := congrArg (List.map TL.tl) e
  rw [List.map_map, List.map_map, show (TL.tl ∘ S) = id from rfl, List.map_id, show (TL.tl ∘ fun n => S (numT n)) = numT from rfl] at e2
  exact e2
theorem prts_rule {ts : List Tm} (h : ts ≠ []) : prts [32, 43, 32] (ruleT ts) = ts.map tmT := by
  have e := split_rule h
  rw [prts_S (by decide) (by decide)] at e
  have e2 := congrArg (List.map TL.tl) e
  rw [List.map_map, List.map_map, show (TL.tl ∘ S) = id from rfl, List.map_id, show (TL.tl ∘ fun t => S (tmT t)) = tmT from rfl] at e2
  exact e2

theorem rowT_inj {ns ms : List Int} (h : ns ≠ []) (h' : ms ≠ []) (e : rowT ns = rowT ms) : ns = ms := by
  have e1 := prts_row h
  rw [e, prts_row h'] at e1
  exact (List.map_inj_right fun _ _ z => numT_inj z).mp e1.symm
theorem rowT_app : ∀ {ns ms : List Int}, ns ≠ [] → ms ≠ [] → rowT ns ++ [44, 32] ++ rowT ms = rowT (ns ++ ms)
  | [], _, h, _ => absurd rfl h
  | [n], m :: ms, _, _ => by
    show numT n ++ [44, 32] ++ rowT (m :: ms) = numT n ++ ([44, 32] ++ rowT (m :: ms))
    rw [List.append_assoc]
  | n :: n2 :: ns, m :: ms, _, h => by
    have ih := rowT_app (ns := n2 :: ns) (ms := m :: ms) (by simp) h
    show (numT n ++ ([44, 32] ++ rowT (n2 :: ns))) ++ [44, 32] ++ rowT (m :: ms) = numT n ++ ([44, 32] ++ rowT (n2 :: ns ++ m :: ms))
    rw [← ih]
    simp only [List.append_assoc]
  | _ :: _, [], _, h => absurd rfl h
theorem ruleT_app : ∀ {ts us : List Tm}, ts ≠ [] → us ≠ [] → ruleT ts ++ [32, 43, 32] ++ ruleT us = ruleT (ts ++ us)
  | [], _, h, _ => absurd rfl h
  | [n], m :: ms, _, _ => by
    show tmT n ++ [32, 43, 32] ++ ruleT (m :: ms) = tmT n ++ ([32, 43, 32] ++ ruleT (m :: ms))
    rw [List.append_assoc]
  | n :: n2 :: ns, m :: ms, _, h => by
    have ih := ruleT_app (ts := n2 :: ns) (us := m :: ms) (by simp) h
    show (tmT n ++ ([32, 43, 32] ++ ruleT (n2 :: ns))) ++ [32, 43, 32] ++ ruleT (m :: ms) = tmT n ++ ([32, 43, 32] ++ ruleT (n2 :: ns ++ m :: ms))
    rw [← ih]
    simp only [List.append_assoc]
  | _ :: _, [], _, h => absurd rfl h
theorem map_some_inj {α : Type} : ∀ {xs ys : List α}, xs.map some = ys.map some → xs = ys
  | [], [], _ => rfl
  | [], _ :: _, h => by cases h
  | _ :: _, [], h => by cases h
  | x :: xs, y :: ys, h => by
    injection h with h1 h2
    rw [Option.some.inj h1, map_some_inj h2]
theorem ruleT_inj {ts us : List Tm} (h : ts ≠ []) (h' : us ≠ []) (ok : ∀ t ∈ ts, TmOk t) (ok' : ∀ t ∈ us, TmOk t) (e : ruleT ts = ruleT us) : ts = us := by
  have e1 := prts_rule h
  rw [e, prts_rule h'] at e1
  have e2 := congrArg (List.map readT) e1
  rw [List.map_map, List.map_map] at e2
  have m : ∀ {vs : List Tm}, (∀ t ∈ vs, TmOk t) → vs.map (readT ∘ tmT) = vs.map some := fun {vs} hv => List.map_congr_left fun t ht => readT_tm (hv t ht)
  rw [m ok, m ok'] at e2
  exact (map_some_inj e2).symm
theorem kn_inj {v w : Nat} (hv : v < 3) (hw : w < 3) (h : kn v = kn w) : v = w := by
  obtain ⟨k0, k1, k2⟩ := kn_w hv
  obtain ⟨l0, l1, l2⟩ := kn_w hw
  have e : v = 0 ∨ v = 1 ∨ v = 2 := by omega
  rcases e with e | e | e
  · exact e.trans (l0.mp (h.symm.trans (k0.mpr e))).symm
  · exact e.trans (l1.mp (h.symm.trans (k1.mpr e))).symm
  · exact e.trans (l2.mp (h.symm.trans (k2.mpr e))).symm
theorem eqv_tm {t u : Tm} (ht : t.w < 3) (hu : u.w < 3) : PyData.eqv (tdat t) (tdat u) = true ↔ t = u := by
  obtain ⟨w, c, z⟩ := t
  obtain ⟨w', c', z'⟩ := u
  unfold tdat
  simp only [PyData.eqv, PyData.eqvAll, Bool.and_true, Bool.and_eq_true, beq_iff_eq, Tm.mk.injEq]
  constructor
  · rintro ⟨a, b, c⟩
    exact ⟨kn_inj ht hu a, b, c⟩
  · rintro ⟨a, b, c⟩
    exact ⟨by rw [a], b, c⟩
theorem eqv_tms : ∀ {ts us : List Tm}, (∀ t ∈ ts, TmOk t) → (∀ t ∈ us, TmOk t) → (PyData.eqvAll (ts.map tdat) (us.map tdat) = true ↔ ts = us)
  | [], [], _, _ => ⟨fun _ => rfl, fun _ => rfl⟩
  | [], _ :: _, _, _ => ⟨fun h => by simp [PyData.eqvAll] at h, fun h => by cases h⟩
  | _ :: _, [], _, _ => ⟨fun h => by simp [PyData.eqvAll] at h, fun h => by cases h⟩
  | t :: ts, u :: us, h, h' => by
    have ih := eqv_tms (ts := ts) (us := us) (fun x m => h x (List.mem_cons_of_mem _ m)) fun x m => h' x (List.mem_cons_of_mem _ m)
    have it := eqv_tm (h t (List.mem_cons_self ..)).w2 (h' u (List.mem_cons_self ..)).w2
    rw [List.map_cons, List.map_cons, PyData.eqvAll, Bool.and_eq_true, ih, it, List.cons.injEq]
theorem eqv_rdat {ts us : List Tm} (h : ∀ t ∈ ts, TmOk t) (h' : ∀ t ∈ us, TmOk t) : PyData.eqv (rdat ts) (rdat us) = true ↔ ts = us := by
  unfold rdat
  rw [PyData.eqv]
  exact eqv_tms h h'
section
variable {K : PySem.W.Frag} {σ : L2.St} {H : Hp} {ta tb : TE} {ts us : List Tm}
theorem ev_neRR (h : EvR ta σ H ts) (h' : EvR tb σ H ts) : Ev (tOp (rNeD K) ta tb) σ H (.bl false) := fun H1 e Q k =>
  h H1 e _ fun r H2 _ e2 R => h' H2 (e.trans e2) _ fun s H3 _ e3 R3 => ⟨rdat ts, rdat ts, (R.ex e3).dp, R3.dp, rdat_shaped ts, rdat_shaped ts, by rw [eqv_rdat_self]; exact k H3 (e2.trans e3)⟩
theorem rv_eqR {r s : Addr} (h : Rul H r ts) (h' : Rul H s us) : RV (rEqD K) (.ref r) (.ref s) H (.bl (PyData.eqv (rdat ts) (rdat us))) := fun H1 e Q k =>
  ⟨rdat ts, rdat us, (h.ex e).dp, (h'.ex e).dp, rdat_shaped ts, rdat_shaped us, k H1 (Ex.refl H1)⟩
end
/-- the first part of a text that is no number, no term -/
def badRow (l : List Nat) (i : Nat) : Prop := l.length ≤ 90000 ∧ (∀ p ∈ prts [44, 32] l, p.length ≤ 640) ∧ ∃ p, (prts [44, 32] l)[i]? = some p ∧ wholeT p = none ∧ ∀ k q, k < i → (prts [44, 32] l)[k]? = some q → wholeT q ≠ none
def badRule (l : List Nat) (i : Nat) : Prop := l.length ≤ 100000 ∧ (l.all fun c => decide (c < 1114112)) = true ∧ (∀ p ∈ prts [32, 43, 32] l, ∀ w ∈ prts [32] p, w.length ≤ 640) ∧ ∃ p, (prts [32, 43, 32] l)[i]? = some p ∧ (12 ≤ i ∨ readT p = none) ∧ ∀ k q, k < i → (prts [32, 43, 32] l)[k]? = some q → k < 12 ∧ readT q ≠ none
theorem prts_one {s : Nat} {sep l : List Nat} (h : s ∉ l) : prts (s :: sep) l = [l] := by
  unfold prts
  rw [TL.spl_last1 h]
  rfl
theorem tm_head (t : Tm) : ∃ c r, tmT t = c :: r ∧ c ≠ 45 := by
  have hb : ∃ c r, brT t.c = c :: r ∧ c ≠ 45 := by
    unfold brT
    split
    · exact ⟨40, _, rfl, by decide⟩
    · rename_i hn
      rw [numT_pos (by omega)]
      cases e : TL.numL t.c.natAbs with
      | nil => exact absurd e (TL.numL_ne _)
      | cons c r =>
        have := TL.numL_digits t.c.natAbs c (by rw [e]; exact List.mem_cons_self ..)
        exact ⟨c, r, rfl, by omega⟩
  obtain ⟨c, r, e, hc⟩ := hb
  unfold tmT
  rw [e]
  split
  · exact ⟨c, _, rfl, hc⟩
  · split
    · exact ⟨c, _, rfl, hc⟩
    · exact ⟨c, _, rfl, hc⟩
theorem tm_blank (t : Tm) : 32 ∈ tmT t := by
  unfold tmT
  split
  · simp
  · split <;> simp
theorem ruleT_all {ts : List Tm} {c : Nat} (h : c ∈ ruleT ts) : c = 32 ∨ c = 43 ∨ c = 40 ∨ c = 41 ∨ c = 42 ∨ c = 45 ∨ c = 94 ∨ (48 ≤ c ∧ c ≤ 57) ∨ (100 ≤ c ∧ c ≤ 120) := by
  rcases joinL_mem _ h with h | ⟨p, hp, h⟩
  · simp only [List.mem_cons, List.not_mem_nil, or_false] at h
    omega
  · obtain ⟨t, _, rfl⟩ := List.mem_map.mp hp
    rw [tmT_words] at h
    rcases joinL_mem _ h with h | ⟨w, hw, h⟩
    · simp only [List.mem_cons, List.not_mem_nil, or_false] at h
      omega
    · have := tmW_free hw h
      omega
theorem rowT_all {ns : List Int} {c : Nat} (h : c ∈ rowT ns) : c = 32 ∨ c = 44 ∨ c = 45 ∨ (48 ≤ c ∧ c ≤ 57) := by
  rcases joinL_mem _ h with h | ⟨p, hp, h⟩
  · simp only [List.mem_cons, List.not_mem_nil, or_false] at h
    omega
  · obtain ⟨n, _, rfl⟩ := List.mem_map.mp hp
    have := numT_free n c h
    omega
theorem bad_row_rule {ts : List Tm} (h0 : 0 < ts.length) (h1 : ts.length ≤ 12) (ok : ∀ t ∈ ts, TmOk t) : badRow (ruleT ts) 0 := by
  have hl := rule_len ok (by omega)
  have hl2 : (ruleT ts).length ≤ 640 := by
    have e := joinL_len [32, 43, 32] (ts.map tmT)
    have e2 := rule_sum ok
    rw [List.map_map] at e2
    have e3 : ((ts.map tmT).map (·.length)).sum = (ts.map ((·.length) ∘ fun t => S (tmT t))).sum := by
      rw [List.map_map]
      congr 1
    rw [e3, List.length_map] at e
    have e4 : ([32, 43, 32] : List Nat).length = 3 := rfl
    rw [e4] at e
    unfold ruleT
    omega
  have pr : prts [44, 32] (ruleT ts) = [ruleT ts] := prts_one fun h => by
    have := ruleT_all h
    omega
  refine ⟨by omega, ?_, ruleT ts, by rw [pr]; rfl, ?_, fun k q hk => absurd hk (by omega)⟩
  · rw [pr]
    intro p hp
    rw [List.mem_singleton.mp hp]
    exact hl2
  · obtain ⟨t, us, rfl⟩ : ∃ t us, ts = t :: us := by
      cases ts with
      | nil => cases h0
      | cons t us => exact ⟨t, us, rfl⟩
    have hm : ∀ c ∈ tmT t, c ∈ ruleT (t :: us) := fun c hc => joinL_sub _ (List.mem_cons_self ..) c hc
    have hh : ∃ c r, ruleT (t :: us) = c :: r ∧ c ≠ 45 := by
      obtain ⟨c, r, e, hc⟩ := tm_head t
      unfold ruleT
      cases us with
      | nil => exact ⟨c, r, e, hc⟩
      | cons u us =>
        refine ⟨c, r ++ ([32, 43, 32] ++ TL.joinL [32, 43, 32] ((u :: us).map tmT)), ?_, hc⟩
        show tmT t ++ _ = _
        rw [e]
        rfl
    obtain ⟨c, r, e, hc⟩ := hh
    unfold wholeT
    rw [if_neg (by rw [e]; intro z; injection z with z; exact hc z)]
    have en : natT (ruleT (t :: us)) = none := by
      unfold natT
      rw [if_neg fun z => ?_]
      have := List.all_eq_true.mp z.1 32 (hm 32 (tm_blank t))
      exact absurd this (by decide)
    rw [en]
theorem bad_rule_row {ns : List Int} (h0 : ns ≠ []) (h1 : ns.length ≤ 100) (hz : ∀ z ∈ ns, NumOk z) : badRule (rowT ns) 0 := by
  have ok := rt_ok (List.length_pos_iff.mpr h0) (by omega) hz
  have pr : prts [32, 43, 32] (rowT ns) = [rowT ns] := by
    have nm : 43 ∉ rowT ns := fun h => by
      have := rowT_all h
      omega
    have := spl_plus (parts := [rowT ns]) (by simp) (fun p hp => by rw [List.mem_singleton.mp hp]; exact nm)
    exact this
  have lim : (rowT ns).length ≤ 64200 := by
    have e := joinL_len [44, 32] (ns.map numT)
    have e2 := ok.sum
    rw [List.map_map] at e2
    have e3 : ((ns.map numT).map (·.length)).sum = (ns.map ((·.length) ∘ fun n => S (numT n))).sum := by
      rw [List.map_map]
      congr 1
    rw [e3, List.length_map] at e
    have e4 : ([44, 32] : List Nat).length = 2 := rfl
    rw [e4] at e
    unfold rowT
    omega
  have no42 : ∀ w ∈ prts [32] (rowT ns), w ≠ [42] := fun w hw z => by
    have := rowT_all (prts_mem (by decide) (by decide) hw (c := 42) (by rw [z]; exact List.mem_singleton.mpr rfl))
    omega
  refine ⟨by omega, ?_, ?_, rowT ns, by rw [pr]; rfl, .inr ?_, fun k q hk => absurd hk (by omega)⟩
  · rw [List.all_eq_true]
    intro c hc
    have := rowT_all hc
    exact decide_eq_true (by omega)
  · rw [pr]
    intro p hp w hw
    rw [List.mem_singleton.mp hp] at hw
    have wd : ∀ {ms : List Int}, ms ≠ [] → (∀ m ∈ ms, (numT m).length ≤ 639) → ∀ w ∈ prts [32] (rowT ms), w.length ≤ 640 := fun {ms} hne hms => by
      induction ms with
      | nil => exact absurd rfl hne
      | cons m ms ih =>
        have hm := hms m (List.mem_cons_self ..)
        have f32 : ∀ {q : List Nat}, (∀ c ∈ q, c = 45 ∨ (48 ≤ c ∧ c ≤ 57) ∨ c = 44) → 32 ∉ q := fun h z => by
          have := h 32 z
          omega
        cases ms with
        | nil =>
          intro w hw
          have e : rowT [m] = numT m := rfl
          rw [e, prts_one (f32 fun c hc => by have := numT_free m c hc; omega)] at hw
          rw [List.mem_singleton.mp hw]
          omega
        | cons m2 ms =>
          intro w hw
          have e : rowT (m :: m2 :: ms) = (numT m ++ [44]) ++ ([32] ++ rowT (m2 :: ms)) := by
            show numT m ++ ([44, 32] ++ rowT (m2 :: ms)) = _
            simp
          unfold prts at hw
          rw [e, show ([32] : List Nat) ++ rowT (m2 :: ms) = 32 :: [] ++ rowT (m2 :: ms) from rfl, TL.spl_part1 (f32 fun c hc => by
            rcases List.mem_append.mp hc with h | h
            · have := numT_free m c h
              omega
            · have := List.mem_singleton.mp h
              omega), List.nil_append] at hw
          rcases List.mem_cons.mp hw with rfl | hw
          · rw [List.length_append]
            show _ + 1 ≤ 640
            omega
          · exact ih (by simp) (fun x hx => hms x (List.mem_cons_of_mem _ hx)) w hw
    exact wd h0 (fun m hm => by have := num_len (hz m hm); omega) w hw
  · have en : rdT (rowT ns) = none := by
      have b1 : B1 (prts [32] (rowT ns)) = false := by
        unfold B1
        by_cases h5 : (prts [32] (rowT ns)).length = 5
        · have n1 : (prts [32] (rowT ns)).getD 1 [] ≠ [42] := by
            rw [List.getD_eq_getElem?_getD, List.getElem?_eq_getElem (by omega)]
            exact no42 _ (List.getElem_mem _)
          rw [decide_eq_false n1]
          simp
        · rw [decide_eq_false h5]
          rfl
      have b2 : B2 (prts [32] (rowT ns)) = false := by
        have nn : ¬ ((prts [32] (rowT ns)).drop 1).take 2 = [[42], [114, 105, 110, 103]] := fun z => no42 [42] (List.mem_of_mem_drop (List.mem_of_mem_take (by rw [z]; exact List.mem_cons_self ..))) rfl
        unfold B2
        rw [decide_eq_false nn]
        simp
      have b3 : B3 (prts [32] (rowT ns)) = false := by
        have nn : ¬ ((prts [32] (rowT ns)).drop 1).take 3 = [[42], [110], [94]] := fun z => no42 [42] (List.mem_of_mem_drop (List.mem_of_mem_take (by rw [z]; exact List.mem_cons_self ..))) rfl
        unfold B3
        rw [decide_eq_false nn]
        simp
      unfold rdT rdW
      rw [if_neg (by rw [b1]; exact Bool.false_ne_true), if_neg (by rw [b2]; exact Bool.false_ne_true), if_neg (by rw [b3]; exact Bool.false_ne_true)]
    unfold readT
    rw [en]
theorem words_rule {ts : List Tm} (h : ts ≠ []) (ok : ∀ t ∈ ts, TmOk t) : ∀ p ∈ prts [32, 43, 32] (ruleT ts), ∀ w ∈ prts [32] p, w.length ≤ 640 := fun p hp w hw => by
  rw [prts_rule h] at hp
  obtain ⟨t, ht, rfl⟩ := List.mem_map.mp hp
  have := prts_len (by decide) (by decide) hw
  have := tm_small (ok t ht)
  omega
theorem asc_rule (ts : List Tm) : ((ruleT ts).all fun c => decide (c < 1114112)) = true := by
  rw [List.all_eq_true]
  intro c hc
  have := ruleT_all hc
  exact decide_eq_true (by omega)
theorem rule_at {ts : List Tm} (h : ts ≠ []) (ok : ∀ t ∈ ts, TmOk t) {k : Nat} {q : List Nat} (e : (prts [32, 43, 32] (ruleT ts))[k]? = some q) : ∃ t, ts[k]? = some t ∧ q = tmT t ∧ readT q = some t := by
  rw [prts_rule h, List.getElem?_map] at e
  cases g : ts[k]? with
  | none =>
    rw [g] at e
    cases e
  | some t =>
    rw [g] at e
    cases e
    exact ⟨t, rfl, rfl, readT_tm (ok t (List.mem_of_getElem? g))⟩
theorem bad_rule_long {ts : List Tm} (h0 : 12 < ts.length) (h1 : ts.length ≤ 100) (ok : ∀ t ∈ ts, TmOk t) : badRule (ruleT ts) 12 := by
  have ne : ts ≠ [] := fun z => by rw [z] at h0; cases h0
  have hl := rule_len ok h1
  have e12 : (prts [32, 43, 32] (ruleT ts))[12]? = some (tmT ts[12]) := by
    rw [prts_rule ne, List.getElem?_map, List.getElem?_eq_getElem h0]
    rfl
  refine ⟨by omega, asc_rule ts, words_rule ne ok, _, e12, .inl (Nat.le_refl _), fun k q hk e => ⟨hk, ?_⟩⟩
  obtain ⟨t, _, _, er⟩ := rule_at ne ok e
  rw [er]
  exact fun z => by cases z

/-! ### terms beyond the bounds -/
structure TmN (t : Tm) : Prop where
  w2 : t.w < 3
  c : NumOk t.c
  z : NumOk t.z
theorem numok_of {n : Int} (h0 : -1000000000 ≤ n) (h1 : n ≤ 1000000000) : NumOk n := by
  unfold NumOk
  rw [p60]
  omega
theorem TmOk.n {t : Tm} (h : TmOk t) : TmN t := by
  obtain ⟨c0, c1, z0, z1⟩ := h.zb
  exact ⟨h.w2, numok_of c0 c1, numok_of z0 z1⟩
theorem br_len {n : Int} (h : NumOk n) : (brT n).length ≤ 64 := by
  have := num_len h
  unfold brT
  split
  · rw [List.length_cons, List.length_append]
    show _ + 1 + 1 ≤ 64
    omega
  · omega
theorem tm_len {t : Tm} (h : TmN t) : (tmT t).length ≤ 140 := by
  have a := br_len h.c
  have b := br_len h.z
  have c := num_len h.z
  unfold tmT
  split
  · simp only [List.length_append, List.length_cons, List.length_nil]
    omega
  · split
    · simp only [List.length_append, List.length_cons, List.length_nil]
      omega
    · simp only [List.length_append, List.length_cons, List.length_nil]
      omega
theorem natI_num (z : Int) : natI (numT z) = if z < 0 then none else some z := by
  unfold natI
  by_cases h : z < 0
  · have e : natT (numT z) = none := by
      unfold natT
      rw [if_neg fun c => ?_]
      have := List.all_eq_true.mp c.1 45 (by unfold numT; rw [if_pos h]; exact List.mem_cons_self ..)
      exact absurd this (by decide)
    rw [e, if_pos h]
  · rw [numT_pos (by omega), natT_num, if_neg h]
    show some ((z.natAbs : Nat) : Int) = some z
    congr 1
    omega
theorem rdT_tm {t : Tm} (h : t.w < 3) : rdT (tmT t) = some (t.w, some t.c, if t.w = 0 then some t.z else if t.z < 0 then none else some t.z) := by
  obtain ⟨w, c, z⟩ := t
  have w2 : w < 3 := h
  unfold rdT
  rw [prts_term]
  match w, w2 with
  | 0, _ =>
    have e : tmW ⟨0, c, z⟩ = [brT c, [42], brT z, [94], [110]] := rfl
    have b : B1 [brT c, [42], brT z, [94], [110]] = true := rfl
    rw [e]
    unfold rdW
    rw [if_pos b]
    show some (0, brkT (brT c), brkT (brT z)) = _
    rw [brkT_num, brkT_num]
    rfl
  | 1, _ =>
    have e : tmW ⟨1, c, z⟩ = [brT c, [42], [114, 105, 110, 103], numT z] := rfl
    have b : B1 [brT c, [42], [114, 105, 110, 103], numT z] = false := rfl
    have b2 : B2 [brT c, [42], [114, 105, 110, 103], numT z] = true := rfl
    rw [e]
    unfold rdW
    rw [if_neg (by rw [b]; exact Bool.false_ne_true), if_pos b2]
    show some (1, brkT (brT c), natI (numT z)) = _
    rw [brkT_num, natI_num]
    rfl
  | 2, _ =>
    have e : tmW ⟨2, c, z⟩ = [brT c, [42], [110], [94], numT z] := rfl
    have nn : numT z ≠ [110] := fun h => by
      have := numT_free z 110 (by rw [h]; exact List.mem_singleton.mpr rfl)
      omega
    have b : B1 [brT c, [42], [110], [94], numT z] = false := by
      unfold B1
      rw [show decide (([brT c, [42], [110], [94], numT z] : List (List Nat)).drop 3 = [[94], [110]]) = false from decide_eq_false fun h => nn (by
        have h' : ([[94], numT z] : List (List Nat)) = [[94], [110]] := h
        injection h' with _ h'
        injection h')]
      rfl
    have b2 : B2 [brT c, [42], [110], [94], numT z] = false := rfl
    have b3 : B3 [brT c, [42], [110], [94], numT z] = true := rfl
    rw [e]
    unfold rdW
    rw [if_neg (by rw [b]; exact Bool.false_ne_true), if_neg (by rw [b2]; exact Bool.false_ne_true), if_pos b3]
    show some (2, brkT (brT c), natI (numT z)) = _
    rw [brkT_num, natI_num]
    rfl
  | w + 3, h => exact absurd h (by omega)
theorem readT_bad {t : Tm} (h : t.w < 3) (n : ¬ TmOk t) : readT (tmT t) = none := by
  unfold readT
  rw [rdT_tm h]
  split
  · rename_i w c z e
    by_cases hz : t.w = 0
    · rw [if_pos hz] at e
      cases e
      exact if_neg fun hb => n ((tmB_iff h).mp hb)
    · rw [if_neg hz] at e
      split at e
      · cases e
      · cases e
        exact if_neg fun hb => n ((tmB_iff h).mp hb)
  · rfl
/-- which term of a list is the first that can't stand -/
def BadAt (ts : List Tm) : Option Nat → Prop
  | none => ts.length ≤ 12 ∧ ∀ t ∈ ts, TmOk t
  | some i => ∃ t, ts[i]? = some t ∧ (12 ≤ i ∨ ¬ TmOk t) ∧ ∀ k u, k < i → ts[k]? = some u → k < 12 ∧ TmOk u
theorem tmB_bad {t : Tm} (h : t.w < 3) (n : ¬ TmOk t) : tmB (kn t.w) (some t.c) (some t.z) = false := by
  cases e : tmB (kn t.w) (some t.c) (some t.z) with
  | false => rfl
  | true => exact absurd ((tmB_iff h).mp e) n
/-- what check_rule is asked: a rule, or the first thing in it that can't stand -/
def NonL (H : Hp) (x : V) : Prop := x = .non ∨ (∃ m, x = .int m) ∨ (∃ c, x = .bl c) ∨ (∃ s, x = .str s) ∨ (∃ a xs, x = .ref a ∧ H a = some (.tup xs)) ∨ (∃ a kvs, x = .ref a ∧ H a = some (.dK kvs))
theorem NonL.ex {H H' : Hp} {x : V} (h : NonL H x) (e : Ex H H') : NonL H' x := by
  rcases h with h | h | h | h | ⟨a, xs, h, g⟩ | ⟨a, xs, h, g⟩
  · exact .inl h
  · exact .inr (.inl h)
  · exact .inr (.inr (.inl h))
  · exact .inr (.inr (.inr (.inl h)))
  · exact .inr (.inr (.inr (.inr (.inl ⟨a, xs, h, e _ _ g⟩))))
  · exact .inr (.inr (.inr (.inr (.inr ⟨a, xs, h, e _ _ g⟩))))
def BadL (K : PySem.W.Frag) (H : Hp) (xs : List V) (i : Nat) : Prop := i < xs.length ∧ xs.length ≤ 5000 ∧ (∀ (k : Nat) v, k < i → xs[k]? = some v → k < 12 ∧ JT K H v true) ∧ (12 ≤ i ∨ ∃ v, xs[i]? = some v ∧ JT K H v false)
def BadV (K : PySem.W.Frag) (H : Hp) (x : V) (i : Nat) : Prop := (i = 0 ∧ (NonL H x ∨ ∃ r, x = .ref r ∧ H r = some (.lst []))) ∨ (∃ r xs, x = .ref r ∧ H r = some (.lst xs) ∧ BadL K H xs i)
theorem jt_same {K : PySem.W.Frag} {H : Hp} {x : V} {b c : Bool} (h : JT K H x b) (e : b = c) : JT K H x c := e ▸ h
theorem bad_list {K : PySem.W.Frag} {H : Hp} {r : Addr} {ts : List Tm} {i : Nat} (R : Rul H r ts) (h : BadAt ts (some i)) (hn : ∀ t ∈ ts, t.w < 3) (hl : ts.length ≤ 5000) : BadV K H (.ref r) i := by
  obtain ⟨as, g, la, f⟩ := R
  obtain ⟨t, ht, hb, prev⟩ := h
  have hi := (List.getElem?_eq_some_iff.mp ht).1
  have at' : ∀ {k : Nat} {u : Tm}, ts[k]? = some u → ∃ b, (as.map V.ref)[k]? = some (.ref b) ∧ JT K H (.ref b) (tmB (kn u.w) (some u.c) (some u.z)) := fun {k u} hk => by
    have hk' := (List.getElem?_eq_some_iff.mp hk).1
    have hb : as[k]? = some (as[k]'(by omega)) := List.getElem?_eq_getElem _
    exact ⟨_, by rw [List.getElem?_map, hb]; rfl, jt_tm (st_of (f k _ u hb hk))⟩
  refine .inr ⟨r, _, rfl, g, by rw [List.length_map]; omega, by rw [List.length_map]; omega, fun k v hk hv => ?_, ?_⟩
  · have hk' : k < ts.length := by omega
    have hu : ts[k]? = some (ts[k]'hk') := List.getElem?_eq_getElem _
    obtain ⟨b, e1, j⟩ := at' hu
    rw [e1] at hv
    cases hv
    have p := prev k _ hk hu
    exact ⟨p.1, jt_same j ((tmB_iff (hn _ (List.getElem_mem _))).mpr p.2)⟩
  · rcases hb with hb | hb
    · exact .inl hb
    · obtain ⟨b, e1, j⟩ := at' ht
      exact .inr ⟨_, e1, jt_same j (tmB_bad (hn _ (List.mem_of_getElem? ht)) hb)⟩
theorem ruleN_len {ts : List Tm} (h : ∀ t ∈ ts, TmN t) (l : ts.length ≤ 100) : (ruleT ts).length ≤ 15000 ∧ ((ts.map fun t => S (tmT t)).map (·.length)).sum + (ts.map fun t => S (tmT t)).length * (S [32, 43, 32]).length ≤ 16777216 := by
  have e := joinL_len [32, 43, 32] (ts.map tmT)
  have e2 : ((ts.map tmT).map (·.length)).sum ≤ ts.length * 140 := by
    clear e l
    induction ts with
    | nil => exact Nat.le_refl _
    | cons x xs ih =>
      have a := tm_len (h x (List.mem_cons_self ..))
      have b := ih fun z m => h z (List.mem_cons_of_mem _ m)
      rw [List.map_cons, List.map_cons, List.sum_cons, List.length_cons, Nat.succ_mul]
      omega
  have e5 : ((ts.map fun t => S (tmT t)).map (·.length)).sum = ((ts.map tmT).map (·.length)).sum := by
    rw [List.map_map, List.map_map]
    congr 1
  rw [List.length_map] at e
  have e4 : ([32, 43, 32] : List Nat).length = 3 := rfl
  rw [e4] at e
  constructor
  · unfold ruleT
    omega
  · rw [e5, List.length_map, S_len, e4]
    omega
theorem bad_text {ts : List Tm} {i : Nat} (h : BadAt ts (some i)) (hn : ∀ t ∈ ts, TmN t) (hl : ts.length ≤ 100) : badRule (ruleT ts) i := by
  obtain ⟨t, ht, hb, prev⟩ := h
  have ne : ts ≠ [] := fun z => by rw [z] at ht; cases ht
  have at' : ∀ {k : Nat} {q : List Nat}, (prts [32, 43, 32] (ruleT ts))[k]? = some q → ∃ u, ts[k]? = some u ∧ q = tmT u := fun {k q} e => by
    rw [prts_rule ne, List.getElem?_map] at e
    cases g : ts[k]? with
    | none =>
      rw [g] at e
      cases e
    | some u =>
      rw [g] at e
      cases e
      exact ⟨u, rfl, rfl⟩
  refine ⟨by have := (ruleN_len hn hl).1; omega, asc_rule ts, fun p hp w hw => ?_, tmT t, by rw [prts_rule ne, List.getElem?_map, ht]; rfl, ?_, fun k q hk e => ?_⟩
  · rw [prts_rule ne] at hp
    obtain ⟨u, hu, rfl⟩ := List.mem_map.mp hp
    have := prts_len (by decide) (by decide) hw
    have := tm_len (hn u hu)
    omega
  · rcases hb with hb | hb
    · exact .inl hb
    · exact .inr (readT_bad (hn t (List.mem_of_getElem? ht)).w2 hb)
  · obtain ⟨u, hu, rfl⟩ := at' e
    have p := prev k u hk hu
    exact ⟨p.1, by rw [readT_tm p.2]; exact fun z => by cases z⟩
section
variable {K : PySem.W.Frag} {σ : L2.St} {H : Hp} {te ta tb : TE} {ts us : List Tm}
theorem er_cat (h : EvR ta σ H ts) (h' : EvR tb σ H us) (l : ts.length + us.length ≤ 1000) : EvR (tOp rCat ta tb) σ H (ts ++ us) := fun H1 e Q q =>
  h H1 e _ fun r H2 hr e2 R => h' H2 (e.trans e2) _ fun s H3 hs e3 R3 => by
    obtain ⟨as, g, la, f⟩ := R.ex e3
    obtain ⟨bs, g', lb, f'⟩ := R3
    refine ⟨r, s, as.map .ref, bs.map .ref, rfl, rfl, g, g', sz_of (by rw [List.length_map, List.length_map]; omega), fun p hp => q p _ (fresh_back (e2.trans e3) hp) ((e2.trans e3).trans (Ex.new hp)) ⟨as ++ bs, by rw [upd_same, List.map_append], by rw [List.length_append, List.length_append, la, lb], fun i b t x y => ?_⟩⟩
    refine (Ex.new hp) _ _ ?_
    by_cases c : i < as.length
    · rw [List.getElem?_append_left c] at x
      rw [List.getElem?_append_left (by omega)] at y
      exact f i b t x y
    · rw [List.getElem?_append_right (by omega)] at x y
      rw [la] at x
      exact f' _ b t x y
theorem er_catV {r s : Addr} (h : Ev ta σ H (.ref r)) (h' : Ev tb σ H (.ref s)) (R : Rul H r ts) (R' : Rul H s us) (l : ts.length + us.length ≤ 1000) : EvR (tOp rCat ta tb) σ H (ts ++ us) := fun H1 e Q q =>
  h H1 e _ fun H2 e2 => h' H2 (e.trans e2) _ fun H3 e3 => by
    obtain ⟨as, g, la, f⟩ := R.ex ((e.trans e2).trans e3)
    obtain ⟨bs, g', lb, f'⟩ := R'.ex ((e.trans e2).trans e3)
    refine ⟨r, s, as.map .ref, bs.map .ref, rfl, rfl, g, g', sz_of (by rw [List.length_map, List.length_map]; omega), fun p hp => q p _ (fresh_back (e2.trans e3) hp) ((e2.trans e3).trans (Ex.new hp)) ⟨as ++ bs, by rw [upd_same, List.map_append], by rw [List.length_append, List.length_append, la, lb], fun i b t x y => ?_⟩⟩
    refine (Ex.new hp) _ _ ?_
    by_cases c : i < as.length
    · rw [List.getElem?_append_left c] at x
      rw [List.getElem?_append_left (by omega)] at y
      exact f i b t x y
    · rw [List.getElem?_append_right (by omega)] at x y
      rw [la] at x
      exact f' _ b t x y
theorem er_catVR {r : Addr} (h : Ev ta σ H (.ref r)) (R : Rul H r ts) (h' : EvR tb σ H us) (l : ts.length + us.length ≤ 1000) : EvR (tOp rCat ta tb) σ H (ts ++ us) := fun H1 e Q q =>
  h H1 e _ fun H2 e2 => h' H2 (e.trans e2) _ fun s H3 hs e3 R3 => by
    obtain ⟨as, g, la, f⟩ := R.ex ((e.trans e2).trans e3)
    obtain ⟨bs, g', lb, f'⟩ := R3
    refine ⟨r, s, as.map .ref, bs.map .ref, rfl, rfl, g, g', sz_of (by rw [List.length_map, List.length_map]; omega), fun p hp => q p _ (fresh_back (e2.trans e3) hp) ((e2.trans e3).trans (Ex.new hp)) ⟨as ++ bs, by rw [upd_same, List.map_append], by rw [List.length_append, List.length_append, la, lb], fun i b t x y => ?_⟩⟩
    refine (Ex.new hp) _ _ ?_
    by_cases c : i < as.length
    · rw [List.getElem?_append_left c] at x
      rw [List.getElem?_append_left (by omega)] at y
      exact f i b t x y
    · rw [List.getElem?_append_right (by omega)] at x y
      rw [la] at x
      exact f' _ b t x y
theorem er_catRV {s : Addr} (h : EvR ta σ H ts) (h' : Ev tb σ H (.ref s)) (R' : Rul H s us) (l : ts.length + us.length ≤ 1000) : EvR (tOp rCat ta tb) σ H (ts ++ us) := fun H1 e Q q =>
  h H1 e _ fun r H2 hr e2 R => h' H2 (e.trans e2) _ fun H3 e3 => by
    obtain ⟨as, g, la, f⟩ := R.ex e3
    obtain ⟨bs, g', lb, f'⟩ := R'.ex ((e.trans e2).trans e3)
    refine ⟨r, s, as.map .ref, bs.map .ref, rfl, rfl, g, g', sz_of (by rw [List.length_map, List.length_map]; omega), fun p hp => q p _ (fresh_back (e2.trans e3) hp) ((e2.trans e3).trans (Ex.new hp)) ⟨as ++ bs, by rw [upd_same, List.map_append], by rw [List.length_append, List.length_append, la, lb], fun i b t x y => ?_⟩⟩
    refine (Ex.new hp) _ _ ?_
    by_cases c : i < as.length
    · rw [List.getElem?_append_left c] at x
      rw [List.getElem?_append_left (by omega)] at y
      exact f i b t x y
    · rw [List.getElem?_append_right (by omega)] at x y
      rw [la] at x
      exact f' _ b t x y
theorem er_take {r : Addr} {k : Nat} {tl th : TO} (h : Ev te σ H (.ref r)) (h1 : EvO tl σ H none) (h2 : EvO th σ H (some (k : Int))) (R : Rul H r ts) : EvR (tSl (rSlL K) te tl th) σ H (ts.take k) := fun H1 e Q q => by
  obtain ⟨as, g, la, f⟩ := R
  exact el_sl h h1 h2 (sq_of g) H1 e Q fun p H2 hp e2 g2 => q p H2 hp e2 ⟨as.take k, by rw [g2, cut_take, List.map_take], by rw [List.length_take, List.length_take, la], fun i b t x y => by
    have hi : i < k := by
      have := (List.getElem?_eq_some_iff.mp x).1
      rw [List.length_take] at this
      omega
    rw [List.getElem?_take_of_lt hi] at x y
    exact (e.trans e2) _ _ (f i b t x y)⟩
theorem er_drop {r : Addr} {k : Nat} {tl th : TO} (h : Ev te σ H (.ref r)) (h1 : EvO tl σ H (some (k : Int))) (h2 : EvO th σ H none) (R : Rul H r ts) : EvR (tSl (rSlL K) te tl th) σ H (ts.drop k) := fun H1 e Q q => by
  obtain ⟨as, g, la, f⟩ := R
  exact el_sl h h1 h2 (sq_of g) H1 e Q fun p H2 hp e2 g2 => q p H2 hp e2 ⟨as.drop k, by rw [g2, cut_drop, List.map_drop], by rw [List.length_drop, List.length_drop, la], fun i b t x y => by
    rw [List.getElem?_drop] at x y
    exact (e.trans e2) _ _ (f (k + i) b t x y)⟩
theorem er_var1 {u : Addr} {x : Tm} (h : Ev te σ H (.ref u)) (g : H u = some (.tup (tv x))) : EvR (tLst (tCons te tNil)) σ H [x] := fun H1 e Q q => h H1 e _ fun H2 e2 => ⟨sz_of (by show 1 ≤ 100000; decide), fun p hp => q p _ (fresh_back e2 hp) (e2.trans (Ex.new hp)) ⟨[u], upd_same, rfl, fun i b t x y => by
  match i, x, y with
  | 0, x, y =>
    cases x
    cases y
    exact ((e.trans e2).trans (Ex.new hp)) _ _ g
  | i + 1, x, y => cases x⟩⟩
theorem er_var2 {u v : Addr} {x y : Tm} (h : Ev ta σ H (.ref u)) (h' : Ev tb σ H (.ref v)) (g : H u = some (.tup (tv x))) (g' : H v = some (.tup (tv y))) : EvR (tLst (tCons ta (tCons tb tNil))) σ H [x, y] := fun H1 e Q q => h H1 e _ fun H2 e2 => h' H2 (e.trans e2) _ fun H3 e3 => ⟨sz_of (by show 2 ≤ 100000; decide), fun p hp => q p _ (fresh_back (e2.trans e3) hp) ((e2.trans e3).trans (Ex.new hp)) ⟨[u, v], upd_same, rfl, fun i b t x y => by
  have ee := ((e.trans e2).trans e3).trans (Ex.new (o := .lst [.ref u, .ref v]) hp)
  match i, x, y with
  | 0, x, y =>
    cases x
    cases y
    exact ee _ _ g
  | 1, x, y =>
    cases x
    cases y
    exact ee _ _ g'
  | i + 2, x, y => cases x⟩⟩
theorem ev_callRV {sp : Sp} {E : XK} {x z : V} (h1 : Ev ta σ H x) (h : EvR tb σ H ts) (hs : ∀ r H1, Ex H H1 → Rul H1 r ts → SpV sp [x, .ref r] H1 z) : Ev (tCall sp [] E (tCons ta (tCons tb tNil))) σ H z := fun H1 e Q q =>
  h1 H1 e _ fun H2 e2 => h H2 (e.trans e2) _ fun r H3 _ e3 R => hs r H3 ((e.trans e2).trans e3) R H3 (Ex.refl H3) Q (fun H4 e4 => q H4 ((e2.trans e3).trans e4)) E
end

/-! ### dicts of sums of counts -/
def DictOf (kvs : List (Key × V)) (f : Int → Int) : Prop := (kvs.map (·.1)).Nodup ∧ (∀ e ∈ kvs, ∃ k : Int, e = (.inl k, .int (f k)) ∧ f k ≠ 0) ∧ ∀ k, f k ≠ 0 → ∃ e ∈ kvs, e.1 = (.inl k : Key)
def CI (kvs : List (Key × V)) (f : Int → Int) : Prop := (kvs.map (·.1)).Nodup ∧ (∀ e ∈ kvs, ∃ k : Int, e = (.inl k, .int (f k))) ∧ ∀ k, valV kvs (.inl k) = none → f k = 0
theorem CI.get {kvs : List (Key × V)} {f : Int → Int} (h : CI kvs f) (k : Int) : (valV kvs (.inl k)).getD (.int 0) = .int (f k) := by
  cases g : valV kvs (.inl k) with
  | none =>
    rw [h.2.2 k g]
    rfl
  | some v =>
    obtain ⟨j, e⟩ := h.2.1 _ (valV_mem g)
    injection e with e1 e2
    injection e1 with e1
    subst e1
    exact e2
theorem putK_nodup {kvs : List (Key × V)} (h : (kvs.map (·.1)).Nodup) (k : Key) (v : V) : ((putK kvs k v).map (·.1)).Nodup := by
  cases g : valV kvs k with
  | none =>
    rw [putK_new v g, List.map_append]
    refine List.nodup_append.mpr ⟨h, List.pairwise_singleton _ _, fun x hx y hy z => ?_⟩
    obtain ⟨e, he, rfl⟩ := List.mem_map.mp hx
    have hy := List.mem_singleton.mp hy
    rw [hy] at z
    have : ∀ {l : List (Key × V)}, e ∈ l → valV l k ≠ none := fun {l} m => by
      induction l with
      | nil => cases m
      | cons a l ih =>
        by_cases c : a.1 = k
        · rw [valV_pos c]
          exact fun z => nomatch z
        · rw [valV_neg c]
          rcases List.mem_cons.mp m with m | m
          · subst m
            exact absurd z c
          · exact ih m
    exact this he g
  | some w =>
    have a : (kvs.any fun kv => decide (kv.1 = k)) = true := by rw [valV_any, g]; rfl
    unfold putK
    rw [if_pos a, List.map_map]
    have e : ((fun x : Key × V => x.1) ∘ fun kv : Key × V => if kv.1 = k then (kv.1, v) else kv) = fun x => x.1 := by
      funext kv
      show (if kv.1 = k then (kv.1, v) else kv).1 = kv.1
      split <;> rfl
    rw [e]
    exact h
theorem putK_mem {kvs : List (Key × V)} {k : Key} {v : V} {e : Key × V} (h : e ∈ putK kvs k v) : e = (k, v) ∨ (e ∈ kvs ∧ e.1 ≠ k) := by
  unfold putK at h
  split at h
  · obtain ⟨a, ha, rfl⟩ := List.mem_map.mp h
    by_cases c : a.1 = k
    · rw [if_pos c, c]
      exact .inl rfl
    · rw [if_neg c]
      exact .inr ⟨ha, c⟩
  · rename_i n
    rcases List.mem_append.mp h with h | h
    · refine .inr ⟨h, fun z => n ?_⟩
      exact List.any_eq_true.mpr ⟨e, h, decide_eq_true z⟩
    · exact .inl (List.mem_singleton.mp h)
theorem CI.put {kvs : List (Key × V)} {f g : Int → Int} (h : CI kvs f) {z c : Int} (hz : g z = c) (ho : ∀ k, k ≠ z → g k = f k) : CI (putK kvs (.inl z) (.int c)) g := by
  refine ⟨putK_nodup h.1 _ _, fun e he => ?_, fun k hk => ?_⟩
  · rcases putK_mem he with rfl | ⟨m, n⟩
    · exact ⟨z, by rw [hz]⟩
    · obtain ⟨k, rfl⟩ := h.2.1 e m
      exact ⟨k, by rw [ho k fun w => n (by rw [w])]⟩
  · rw [valV_put] at hk
    split at hk
    · cases hk
    · rename_i n
      have n' : k ≠ z := fun w => n (by rw [w])
      rw [ho k n', h.2.2 k hk]
theorem CI.dict {kvs : List (Key × V)} {f : Int → Int} (h : CI kvs f) : DictOf (kvs.filter fun e => !decide (e.2 = .int 0)) f := by
  refine ⟨?_, fun e he => ?_, fun k hk => ?_⟩
  · exact (List.filter_sublist.map _).nodup h.1
  · obtain ⟨m, n⟩ := List.mem_filter.mp he
    obtain ⟨k, rfl⟩ := h.2.1 e m
    refine ⟨k, rfl, fun z => ?_⟩
    simp [z] at n
  · cases g : valV kvs (.inl k) with
    | none => exact absurd (h.2.2 k g) hk
    | some v =>
      have m := valV_mem g
      obtain ⟨j, e⟩ := h.2.1 _ m
      injection e with e1 e2
      injection e1 with e1
      rw [e2] at m
      rw [← e1] at m
      refine ⟨_, List.mem_filter.mpr ⟨m, ?_⟩, rfl⟩
      simp [hk]
theorem knE {v w : Nat} (hv : v < 3) (hw : w < 3) (h : kn v = kn w) : v = w := by
  have a : v = 0 ∨ v = 1 ∨ v = 2 := by omega
  have b : w = 0 ∨ w = 1 ∨ w = 2 := by omega
  rcases a with rfl | rfl | rfl <;> rcases b with rfl | rfl | rfl <;> first | rfl | exact absurd h (by decide)
def smO (ts : List Tm) (w : Nat) (k : Int) : Int := ((ts.filter fun t => decide (t.w = w ∧ t.z = k)).map (·.c)).sum
theorem smO_snoc (ts : List Tm) (t : Tm) (w : Nat) (k : Int) : smO (ts ++ [t]) w k = smO ts w k + (if t.w = w ∧ t.z = k then t.c else 0) := by
  unfold smO
  rw [List.filter_append, List.map_append, List.sum_append]
  congr 1
  by_cases c : t.w = w ∧ t.z = k
  · rw [if_pos c, List.filter_cons, if_pos (decide_eq_true c)]
    simp
  · rw [if_neg c, List.filter_cons, if_neg (by simpa using c)]
    rfl
/-- what bars nowhere at a glance -/
structure Calm (ts : List Tm) : Prop where
  free : Free (ruv ts 24)
  pl : ∀ k, smO ts 2 k = 0
  pw : ∀ k, smO ts 0 k ≠ 0 → 0 ≤ k ∧ 0 < smO ts 0 k
  rg : ∀ k, smO ts 1 k ≠ 0 → 0 < smO ts 1 k
theorem DictOf.none {kvs : List (Key × V)} {f : Int → Int} (h : DictOf kvs f) (z : ∀ k, f k = 0) : kvs = [] := by
  cases kvs with
  | nil => rfl
  | cons e l =>
    obtain ⟨k, _, n⟩ := h.2.1 e (List.mem_cons_self ..)
    exact absurd (z k) n
def Pos (kvs : List (Key × V)) : Prop := kvs.length ≤ 12 ∧ ∀ e ∈ kvs, ∃ k c : Int, e = (.inl k, .int c) ∧ 0 < c
def PosB (kvs : List (Key × V)) : Prop := kvs.length ≤ 12 ∧ ∀ e ∈ kvs, ∃ k c : Int, e = (.inl k, .int c) ∧ 0 ≤ k ∧ 0 < c
def RetDb (ts : List Tm) (w : Nat) (H : Hp) (Q : VK) : Prop := ∀ kvs : List (Key × V), DictOf kvs (smO ts w) → kvs.length ≤ 12 → RetDk kvs H Q

theorem map_at {α β : Type} {f : α → β} {l : List α} {i : Nat} {x : β} (h : (l.map f)[i]? = some x) : ∃ a, l[i]? = some a ∧ x = f a := by
  rw [List.getElem?_map] at h
  cases g : l[i]? with
  | none =>
    rw [g] at h
    cases h
  | some a =>
    rw [g] at h
    cases h
    exact ⟨a, rfl, rfl⟩
def intOf (e : Key × V) : Int × Int := match e with
  | (.inl k, .int c) => (k, c)
  | _ => (0, 0)
theorem PosB.pos {kvs : List (Key × V)} (h : PosB kvs) : Pos kvs := ⟨h.1, fun e he => by
  obtain ⟨k, c, e1, _, e2⟩ := h.2 e he
  exact ⟨k, c, e1, e2⟩⟩
theorem DictOf.posB {kvs : List (Key × V)} {ts : List Tm} (c : Calm ts) (h : DictOf kvs (smO ts 0)) (l : kvs.length ≤ 12) : PosB kvs := ⟨l, fun e he => by
  obtain ⟨k, e1, e2⟩ := h.2.1 e he
  obtain ⟨a, b⟩ := c.pw k e2
  exact ⟨k, _, e1, a, b⟩⟩
theorem DictOf.posR {kvs : List (Key × V)} {ts : List Tm} (c : Calm ts) (h : DictOf kvs (smO ts 1)) (l : kvs.length ≤ 12) : Pos kvs := ⟨l, fun e he => by
  obtain ⟨k, e1, e2⟩ := h.2.1 e he
  exact ⟨k, _, e1, c.rg k e2⟩⟩

theorem ev_minNone {K : PySem.W.Frag} {σ : L2.St} {H : Hp} {ta : TE} {p : Addr} (ha : Ev ta σ H (.ref p)) (g : SqL K H p []) : Ev (tCKw (rMinNone K) (tCons ta tNil) (tCons (tC .non) tNil)) σ H .non := fun H1 e Q q =>
  ha H1 e _ fun H2 e2 => ⟨p, rfl, rfl, ex_l (e.trans e2) g, q H2 e2⟩

theorem in300 {o : Option Int} (h : inZ o 1 300 = true) : ∃ n : Nat, o = some (n : Int) ∧ 1 ≤ n ∧ n ≤ 300 := by
  cases o with
  | none => exact absurd h (by simp [inZ])
  | some z =>
    have h' : (decide ((1 : Int) ≤ z) && decide (z ≤ 300)) = true := h
    rw [Bool.and_eq_true] at h'
    have a := of_decide_eq_true h'.1
    have b := of_decide_eq_true h'.2
    exact ⟨z.toNat, by congr 1; omega, by omega, by omega⟩
theorem in300_of {n : Nat} (h0 : 1 ≤ n) (h1 : n ≤ 300) : inZ (some (n : Int)) 1 300 = true := by
  show (decide ((1 : Int) ≤ (n : Int)) && decide ((n : Int) ≤ 300)) = true
  rw [decide_eq_true (by omega), decide_eq_true (by omega)]
  rfl
theorem ev_ixN {K : PySem.W.Frag} {σ : L2.St} {H : Hp} {tl ti : TE} {xs : List V} {i : Int} {v : V} (h : EvL tl σ H xs) (hi : Ev ti σ H (.int i)) (hx : atI xs i = some v) : Ev (tOp (rIxL K) tl ti) σ H v := fun H1 e Q q =>
  h H1 e _ fun p H2 hp e2 g => hi H2 (e.trans e2) _ fun H3 e3 => rv_ixL (sq_of (e3 _ _ g)) hx H3 (Ex.refl _) Q fun H4 e4 => q H4 ((e2.trans e3).trans e4)
theorem ev_go {te : TE} {σ : L2.St} {H : Hp} {v : V} {Q : VK} (h : Ev te σ H v) (k : ∀ H1, Ex H H1 → Q v H1) : te σ H Q := h H (Ex.refl H) Q k
def ValI (kvs : List (Key × V)) : Prop := ∀ e ∈ kvs, ∃ k c : Int, e = (.inl k, .int c)
def PosN (kvs : List (Key × V)) : Prop := kvs.length ≤ 12 ∧ ∀ e ∈ kvs, ∃ k c : Int, e = (.inl k, .int c) ∧ 0 ≤ k ∧ k ≤ 40 ∧ -(2 ^ 60) < c ∧ c < 2 ^ 60
theorem DictOf.valI {kvs : List (Key × V)} {f : Int → Int} (h : DictOf kvs f) : ValI kvs := fun e he => by
  obtain ⟨k, e1, _⟩ := h.2.1 e he
  exact ⟨k, _, e1⟩
theorem smO_le {ts : List Tm} (ok : ∀ t ∈ ts, TmOk t) (w : Nat) (k : Int) : -(1000000 * (ts.length : Int)) ≤ smO ts w k ∧ smO ts w k ≤ 1000000 * (ts.length : Int) := by
  induction ts with
  | nil =>
    have e : smO [] w k = 0 := rfl
    rw [e]
    exact ⟨by simp, by simp⟩
  | cons t ts ih =>
    obtain ⟨a, b⟩ := ih fun u hu => ok u (List.mem_cons_of_mem _ hu)
    have c0 := (ok t (List.mem_cons_self ..)).c0
    have c1 := (ok t (List.mem_cons_self ..)).c1
    unfold smO at *
    rw [List.filter_cons, List.length_cons]
    split
    · rw [List.map_cons, List.sum_cons]
      omega
    · omega
theorem smO_mem {ts : List Tm} {w : Nat} {k : Int} (h : smO ts w k ≠ 0) : ∃ t ∈ ts, t.w = w ∧ t.z = k := Classical.byContradiction fun z => h (by
  unfold smO
  rw [List.filter_eq_nil_iff.mpr fun t ht => by
    intro c
    exact z ⟨t, ht, of_decide_eq_true c⟩]
  rfl)
theorem DictOf.posN {kvs : List (Key × V)} {ts : List Tm} (h : DictOf kvs (smO ts 0)) (ok : ∀ t ∈ ts, TmOk t) (l : ts.length ≤ 12) (c : Calm ts) (lk : kvs.length ≤ 12) : PosN kvs := ⟨lk, fun e he => by
  obtain ⟨k, e1, e2⟩ := h.2.1 e he
  obtain ⟨a, b⟩ := c.pw k e2
  obtain ⟨t, ht, tw, tz⟩ := smO_mem e2
  have p := (ok t ht).p tw
  have q := smO_le ok 0 k
  exact ⟨k, _, e1, a, by omega, by omega, by omega⟩⟩
def cz (f : List (Nat × Int)) : List (Int × Int) := f.map fun x => ((x.1 : Int), x.2)
def PrL (H : Hp) (l : Addr) (f : List (Nat × Int)) : Prop := ∃ qs : List Addr, H l = some (.lst (qs.map .ref)) ∧ Prs H qs (cz f)
theorem PrL.ex {H H' : Hp} {l : Addr} {f : List (Nat × Int)} (h : PrL H l f) (e : Ex H H') : PrL H' l f := by
  obtain ⟨qs, g, p⟩ := h
  exact ⟨qs, e _ _ g, p.ex e⟩
theorem PrL.len {H : Hp} {l : Addr} {f : List (Nat × Int)} (h : PrL H l f) : ∃ qs : List Addr, H l = some (.lst (qs.map .ref)) ∧ qs.length = f.length ∧ ∀ (i : Nat) (q : Addr) (x : Nat × Int), qs[i]? = some q → f[i]? = some x → H q = some (.tup [.int (x.1 : Int), .int x.2]) := by
  obtain ⟨qs, g, l1, p⟩ := h
  refine ⟨qs, g, by rw [l1]; unfold cz; rw [List.length_map], fun i q x hq hx => p i q ((x.1 : Int), x.2) hq ?_⟩
  unfold cz
  rw [List.getElem?_map, hx]
  rfl
theorem prs_of {H : Hp} {qs : List Addr} {f : List (Nat × Int)} (l : qs.length = f.length) (h : ∀ (i : Nat) (q : Addr) (x : Nat × Int), qs[i]? = some q → f[i]? = some x → H q = some (.tup [.int (x.1 : Int), .int x.2])) : Prs H qs (cz f) := by
  refine ⟨by rw [l]; unfold cz; rw [List.length_map], fun i q x hq hx => ?_⟩
  unfold cz at hx
  rw [List.getElem?_map] at hx
  cases g : f[i]? with
  | none =>
    rw [g] at hx
    cases hx
  | some y =>
    rw [g] at hx
    cases hx
    exact h i q y hq g
theorem pr_lc {K : PySem.W.Frag} {σ : L2.St} {H : Hp} {tl te : TE} {a : Addr} {f : List (Nat × Int)} {i j : Nat} {ws : List Nat} (F : Nat × Int → Nat × Int) (h : Ev tl σ H (.ref a)) (g : PrL H a f) (hz : f.length ≤ 40000) (hw : ∀ x y, wipe (((wipe σ ws).set i (some x)).set j (some y)) ws = wipe σ ws)
    (he : ∀ (x : Nat × Int) H1, Ex H H1 → x ∈ f → EvU te (((wipe σ ws).set i (some (.int (x.1 : Int)))).set j (some (.int x.2))) H1 [.int ((F x).1 : Int), .int (F x).2]) :
    ∀ H1, Ex H H1 → ∀ Q : VK, (∀ (l' : Addr) H2, H1 l' = none → Ex H1 H2 → PrL H2 l' (f.map F) → Q (.ref l') H2) → (tLc (iList K tl) (g2 K i j) tYes te ws) σ H1 Q := fun H0 e Q q => h H0 e _ fun H1 e1 => by
  obtain ⟨qs, gq, lq, fq⟩ := (g.ex (e.trans e1)).len
  refine ⟨a, rfl, ⟨_, sq_of gq⟩, fun Dl hD => ?_⟩
  refine lc_list (xs := qs.map V.ref) (fun k H' => Ex H1 H' ∧ ∃ rs : List Addr, H' Dl = some (.lst (rs.map .ref)) ∧ rs.length = k ∧ (∀ r ∈ rs, r ≠ Dl) ∧ ∀ (m : Nat) (r : Addr) (x : Nat × Int), rs[m]? = some r → f[m]? = some x → H' r = some (.tup [.int ((F x).1 : Int), .int (F x).2])) ⟨Ex.new hD, [], upd_same, rfl, (fun _ h => nomatch h), (fun _ _ _ h => nomatch h)⟩ (fun k H' _ p => sq_of (p.1 _ _ gq)) (fun k x H' hx p => ?_) fun H' p => ?_
  · obtain ⟨p1, rs, gD, lr, nr, fr⟩ := p
    rw [List.getElem?_map] at hx
    cases hg : qs[k]? with
    | none =>
      rw [hg] at hx
      cases hx
    | some b =>
      rw [hg] at hx
      cases hx
      have hk := (List.getElem?_eq_some_iff.mp hg).1
      have hk2 : k < f.length := by omega
      have hf : f[k]? = some f[k] := List.getElem?_eq_getElem hk2
      generalize f[k] = z at hf
      refine g2_go (p1 _ _ (fq k b z hg hf)) ⟨hw _ _, ?_⟩
      refine et_yes H' (Ex.refl H') _ fun H3 e3 => iteT ?_
      refine he z H3 ((e.trans e1).trans (p1.trans e3)) (List.mem_of_getElem? hf) H3 (Ex.refl H3) _ fun u H4 hu e4 gu => ?_
      have nu : u ≠ Dl := fun z => by
        rw [z, e3 _ _ gD] at hu
        cases hu
      refine ⟨_, e4 _ _ (e3 _ _ gD), sz_lt (by rw [List.length_map]; omega), ((p1.trans e3).trans e4).mut hD, rs ++ [u], by rw [upd_same, List.map_append]; rfl, by rw [List.length_append, lr]; rfl, fun r hr => ?_, fun m r x hm hx => ?_⟩
      · rcases List.mem_append.mp hr with hr | hr
        · exact nr r hr
        · rw [List.mem_singleton.mp hr]
          exact nu
      · by_cases c : m < rs.length
        · rw [List.getElem?_append_left c] at hm
          rw [upd_ne (nr r (List.mem_of_getElem? hm))]
          exact e4 _ _ (e3 _ _ (fr m r x hm hx))
        · rw [List.getElem?_append_right (by omega)] at hm
          match hq : m - rs.length, hm with
          | 0, hm =>
            cases hm
            obtain rfl : m = k := by omega
            rw [hf] at hx
            cases hx
            rw [upd_ne nu]
            exact gu
          | t + 1, hm => cases hm
  · obtain ⟨p1, rs, gD, lr, nr, fr⟩ := p
    rw [List.length_map] at lr
    refine q Dl H' (fresh_back e1 hD) (e1.trans p1) ⟨rs, gD, prs_of (by rw [lr, List.length_map, lq]) fun m r x hm hx => ?_⟩
    rw [List.getElem?_map] at hx
    cases g' : f[m]? with
    | none =>
      rw [g'] at hx
      cases hx
    | some y =>
      rw [g'] at hx
      cases hx
      exact fr m r y hm g'
theorem PrL.app {H : Hp} {l l1 l2 : Addr} {f g : List (Nat × Int)} {qs rs : List Addr} (hl : H l = some (.lst ((qs ++ rs).map V.ref))) (p : Prs H qs (cz f)) (r : Prs H rs (cz g)) : PrL H l (f ++ g) := by
  refine ⟨qs ++ rs, hl, ?_⟩
  have e : cz (f ++ g) = cz f ++ cz g := by unfold cz; rw [List.map_append]
  rw [e]
  refine ⟨by rw [List.length_append, List.length_append, p.1, r.1], fun i q x hq hx => ?_⟩
  by_cases c : i < qs.length
  · rw [List.getElem?_append_left c] at hq
    rw [List.getElem?_append_left (by rw [← p.1]; exact c)] at hx
    exact p.2 i q x hq hx
  · rw [List.getElem?_append_right (by omega)] at hq
    rw [List.getElem?_append_right (by rw [← p.1]; omega), ← p.1] at hx
    exact r.2 _ q x hq hx
theorem q_asgLU1 {σ : L2.St} {H : Hp} {te : TE} {D : Ends} {tz : TS} {i : Nat} {xs : List V} (h : EvU te σ H xs) (k : ∀ l t H1, H l = none → Ex H H1 → H1 l = some (.lst [.ref t]) → H1 t = some (.tup xs) → tz D (σ.set i (some (.ref l))) H1) : tSeq (tAsg (tLst (tCons te tNil)) (gName i)) tz D σ H :=
  h H (Ex.refl H) _ fun t H1 ht e1 gt => ⟨sz_of (by show 1 ≤ 100000; decide), fun l hl => k l t _ (fresh_back e1 hl) (e1.trans (Ex.new hl)) upd_same ((Ex.new hl) _ _ gt)⟩
/-- found = found + [.. for .. in found] -/
theorem s_catPr {K : PySem.W.Frag} {σ : L2.St} {H : Hp} {ta tb : TE} {D : Ends} {i : Nat} {l : Addr} {f g : List (Nat × Int)} (ha : Ev ta σ H (.ref l)) (p : PrL H l f) (hz : f.length + g.length ≤ 100000)
    (hb : ∀ H1, Ex H H1 → ∀ Q : VK, (∀ (l' : Addr) H2, H1 l' = none → Ex H1 H2 → PrL H2 l' g → Q (.ref l') H2) → tb σ H1 Q)
    (k : ∀ m H1, H m = none → Ex H H1 → PrL H1 m (f ++ g) → D.nx (σ.set i (some (.ref m))) H1) : tAsg (tOp rCat ta tb) (gName i) D σ H :=
  ha H (Ex.refl H) _ fun H1 e1 => hb H1 e1 _ fun l' H2 hl' e2 p2 => by
    obtain ⟨qs, gq, pq⟩ := p.ex (e1.trans e2)
    obtain ⟨rs, gr, pr⟩ := p2
    have e : ∀ x, (cz x).length = x.length := fun x => by unfold cz; rw [List.length_map]
    refine ⟨l, l', _, _, rfl, rfl, gq, gr, sz_of ?_, fun m hm => k m _ (fresh_back (e1.trans e2) hm) ((e1.trans e2).trans (Ex.new hm)) (PrL.app (l1 := l) (l2 := l') (by rw [upd_same, List.map_append]) (pq.ex (Ex.new hm)) (pr.ex (Ex.new hm)))⟩
    rw [List.length_map, List.length_map, pq.1, pr.1, e, e]
    exact hz
def strip : Nat → Nat → Nat → Nat
  | 0, r, _ => r
  | k + 1, r, q => if r % q = 0 then strip k (r / q) q else r
theorem strip_ok : ∀ {k r q : Nat}, 2 ≤ q → 1 ≤ r → 1 ≤ strip k r q ∧ strip k r q ≤ r
  | 0, r, q, _, h => ⟨h, Nat.le_refl _⟩
  | k + 1, r, q, h2, h => by
    unfold strip
    split
    · rename_i e
      have a : r / q ≤ r := Nat.div_le_self _ _
      have b : 1 ≤ r / q := (Nat.le_div_iff_mul_le (by omega)).mpr (by
        rw [Nat.one_mul]
        exact Nat.le_of_dvd (by omega) (Nat.dvd_of_mod_eq_zero e))
      obtain ⟨c, d⟩ := strip_ok (k := k) h2 b
      exact ⟨c, by omega⟩
    · exact ⟨h, Nat.le_refl _⟩
theorem strip_half {k r q : Nat} (h2 : 2 ≤ q) (h : 1 ≤ r) (e : r % q = 0) : strip (k + 1) r q ≤ r / 2 := by
  unfold strip
  rw [if_pos e]
  have b : 1 ≤ r / q := (Nat.le_div_iff_mul_le (by omega)).mpr (by
    rw [Nat.one_mul]
    exact Nat.le_of_dvd (by omega) (Nat.dvd_of_mod_eq_zero e))
  exact Nat.le_trans (strip_ok h2 b).2 (Nat.div_le_div_left h2 (by decide))
theorem strip_self {k r : Nat} (h : 2 ≤ r) : strip (k + 1) r r = 1 := by
  unfold strip
  rw [if_pos (Nat.mod_self r), Nat.div_self (by omega)]
  cases k with
  | zero => rfl
  | succ k =>
    unfold strip
    rw [if_neg]
    rw [Nat.mod_eq_of_lt (by omega)]
    decide
def sdF (q : Nat) (x : Nat × Int) : Nat × Int := (x.1 / q, -x.2)
def sdQ (r p : Nat) : Nat := if r < p * p then r else p
def sdS (f : List (Nat × Int)) (r q : Nat) : List (Nat × Int) := if r % q = 0 then f ++ f.map (sdF q) else f
def sdGo : Nat → List (Nat × Int) → Nat → Nat → List (Nat × Int)
  | 0, f, _, _ => f
  | m + 1, f, r, p => if r ≤ 1 then f else sdGo m (sdS f r (sdQ r p)) (strip 300 r (sdQ r p)) (sdQ r p + 1)
def sd (n : Nat) : List (Nat × Int) := sdGo 300 [(n, 1)] n 2
theorem sdGo_end {m : Nat} {f : List (Nat × Int)} {r p : Nat} (h : r ≤ 1) : sdGo m f r p = f := by
  cases m with
  | zero => rfl
  | succ m => exact if_pos h
def sdOk (n : Nat) : Bool := (sd n).all fun x => decide (1 ≤ x.1) && decide (x.1 ≤ n) && (decide (x.2 = 1) || decide (x.2 = -1))
def allB (p : Nat → Bool) : Nat → Bool
  | 0 => p 0
  | n + 1 => p (n + 1) && allB p n
theorem allB_get {p : Nat → Bool} : ∀ {n : Nat}, allB p n = true → ∀ k, k ≤ n → p k = true
  | 0, h, k, hk => by
    obtain rfl : k = 0 := by omega
    exact h
  | n + 1, h, k, hk => by
    have h' : (p (n + 1) && allB p n) = true := h
    rw [Bool.and_eq_true] at h'
    by_cases c : k = n + 1
    · rw [c]
      exact h'.1
    · exact allB_get h'.2 k (by omega)
theorem sd_all : allB (fun n => n == 0 || sdOk n) 300 = true := by decide +kernel
theorem sd_ok {n : Nat} (h0 : 1 ≤ n) (h1 : n ≤ 300) {x : Nat × Int} (h : x ∈ sd n) : 1 ≤ x.1 ∧ x.1 ≤ n ∧ (x.2 = 1 ∨ x.2 = -1) := by
  have a := allB_get sd_all n h1
  rw [Bool.or_eq_true] at a
  rcases a with a | a
  · have := eq_of_beq a
    omega
  · have b := List.all_eq_true.mp a x h
    simp only [Bool.and_eq_true, Bool.or_eq_true, decide_eq_true_eq] at b
    exact ⟨b.1.1, b.1.2, b.2⟩
theorem sub_head (r : List Int) : ∀ k, sub r k 0 = r.getD 0 0
  | 0 => rfl
  | k + 1 => by
    show sub r k 0 - (if k < 0 ∧ (0 + 1) % (k + 1) = 0 then sub r k k else 0) = _
    rw [if_neg fun z => Nat.not_lt_zero _ z.1, sub_head r k]
    omega
theorem jt_non {K : PySem.W.Frag} {H : Hp} : JT K H .non false := .inr ⟨rfl, .inr (.inl rfl)⟩
theorem jt_int {K : PySem.W.Frag} {H : Hp} (m : Int) : JT K H (.int m) false := .inr ⟨rfl, .inl ⟨m, rfl⟩⟩
theorem jt_str {K : PySem.W.Frag} {H : Hp} (s : Str) : JT K H (.str s) false := .inr ⟨rfl, .inr (.inr (.inr (.inl ⟨s, rfl⟩)))⟩
theorem jt_lst {K : PySem.W.Frag} {H : Hp} {a : Addr} {xs : List V} (g : H a = some (.lst xs)) : JT K H (.ref a) false := .inr ⟨rfl, .inr (.inr (.inr (.inr (.inl ⟨a, xs, rfl, sq_of g⟩))))⟩
theorem jt_dct {K : PySem.W.Frag} {H : Hp} {a : Addr} {kvs} (g : H a = some (.dK kvs)) : JT K H (.ref a) false := .inr ⟨rfl, .inr (.inr (.inr (.inr (.inr (.inl ⟨a, kvs, rfl, g⟩)))))⟩
theorem jt_tup {K : PySem.W.Frag} {H : Hp} {a : Addr} {xs : List V} (g : H a = some (.tup xs)) (n : xs.length ≠ 3) : JT K H (.ref a) false := .inr ⟨rfl, .inr (.inr (.inr (.inr (.inr (.inr (.inl ⟨a, xs, rfl, st_of g, n⟩))))))⟩
theorem jt_three {K : PySem.W.Frag} {H : Hp} {a : Addr} {kd : Str} {c z : V} {co zo : Option Int} (g : H a = some (.tup [.str kd, c, z])) (hc : NV H c co) (hz : NV H z zo) (e : tmB kd co zo = false) : JT K H (.ref a) false := .inl ⟨a, kd, c, z, co, zo, rfl, st_of g, hc, hz, e.symm⟩
def KO (H : Hp) (k : V) : Prop := k = .non ∨ (∃ b xs, k = .ref b ∧ H b = some (.lst xs)) ∨ (∃ b xs, k = .ref b ∧ H b = some (.tup xs))
theorem jt_kind {K : PySem.W.Frag} {H : Hp} {a : Addr} {k c z : V} (g : H a = some (.tup [k, c, z])) (h : KO H k) : JT K H (.ref a) false := .inr ⟨rfl, .inr (.inr (.inr (.inr (.inr (.inr (.inr ⟨a, k, c, z, rfl, st_of g, by
  rcases h with h | ⟨b, xs, h, g⟩ | ⟨b, xs, h, g⟩
  · exact .inr (.inl h)
  · exact .inr (.inr (.inr (.inl ⟨b, xs, h, sq_of g⟩)))
  · exact .inr (.inr (.inr (.inr ⟨b, xs, h, st_of g⟩)))⟩))))))⟩
theorem tmB_c (kd : Str) (z : Option Int) : tmB kd none z = false := by
  unfold tmB inZ
  simp
theorem tmB_z (kd : Str) (c : Option Int) : tmB kd c none = false := by
  unfold tmB inZ
  simp
section
variable {K : PySem.W.Frag} {σ : L2.St} {H : Hp} {t1 t2 t3 ta tb tl te : TE} {P P1 P2 P3 : V → Hp → Prop} {ts : List Tm}
theorem ep_T3 (h1 : EvP t1 σ H P1) (h2 : EvP t2 σ H P2) (h3 : EvP t3 σ H P3) (m1 : ∀ v H1 H2, Ex H1 H2 → P1 v H1 → P1 v H2) (m2 : ∀ v H1 H2, Ex H1 H2 → P2 v H1 → P2 v H2) (m3 : ∀ v H1 H2, Ex H1 H2 → P3 v H1 → P3 v H2)
    (k : ∀ x y z p H', P1 x H' → P2 y H' → P3 z H' → H' p = some (.tup [x, y, z]) → P (.ref p) H') : EvP (tTup (tCons t1 (tCons t2 (tCons t3 tNil)))) σ H P := fun H1 e Q q =>
  h1 H1 e _ fun x H2 e2 p1 => h2 H2 (e.trans e2) _ fun y H3 e3 p2 => h3 H3 ((e.trans e2).trans e3) _ fun z H4 e4 p3 => ⟨sz_of (by show 3 ≤ 100000; decide), fun p hp => q (.ref p) _ (((e2.trans e3).trans e4).trans (Ex.new hp)) (k x y z p _ (m1 _ _ _ ((e3.trans e4).trans (Ex.new hp)) p1) (m2 _ _ _ (e4.trans (Ex.new hp)) p2) (m3 _ _ _ (Ex.new hp) p3) upd_same)⟩
end
theorem mid_at {α : Type} (xs zs : List α) (y : α) {j : Nat} (hj : j ≤ xs.length) : (xs.take j ++ [y] ++ zs)[j]? = some y := by
  have l : (xs.take j).length = j := by
    rw [List.length_take]
    omega
  rw [List.append_assoc, List.getElem?_append_right (by omega), l, Nat.sub_self]
  rfl
theorem mid_lt {α : Type} (xs zs : List α) (y : α) {j k : Nat} (hj : j ≤ xs.length) (hk : k < j) : (xs.take j ++ [y] ++ zs)[k]? = xs[k]? := by
  have l : (xs.take j).length = j := by
    rw [List.length_take]
    omega
  rw [List.append_assoc, List.getElem?_append_left (by omega), List.getElem?_take_of_lt hk]
section
variable {K : PySem.W.Frag} {H H' : Hp} {a : Addr} {n m : Nat}
theorem sqt_wb {b : Addr} {xs : List V} (h : SqT K H b xs) (w : Well H a n) (bt : But a H H') : SqT K H' b xs := by
  obtain ⟨x, y, c, q1, _⟩ := w
  rcases h with (h | ⟨o, h⟩) | h
  · exact .inl (.inl (bt _ _ (fun z => by rw [z, q1] at h; cases h) h))
  · exact .inl (.inr ⟨o, bt _ _ (fun z => by rw [z, q1] at h; cases h) h⟩)
  · exact .inr h
theorem sql_wb {b : Addr} {xs : List V} (h : SqL K H b xs) (w : Well H a n) (w' : Well H' a m) (bt : But a H H') : ∃ ys, SqL K H' b ys := by
  obtain ⟨x, y, c, q1, _⟩ := w
  obtain ⟨x', y', c', q2, _⟩ := w'
  by_cases e : b = a
  · exact ⟨_, by rw [e]; exact sq_of q2⟩
  · rcases h with (h | ⟨o, h⟩) | h
    · exact ⟨xs, .inl (.inl (bt _ _ e h))⟩
    · exact ⟨xs, .inl (.inr ⟨o, bt _ _ e h⟩)⟩
    · exact ⟨xs, .inr h⟩
theorem oddv_wb {x : V} (h : OddV H x) (w : Well H a n) (w' : Well H' a m) (bt : But a H H') : OddV H' x := by
  obtain ⟨x1, y1, c1, q1, _⟩ := w
  obtain ⟨x2, y2, c2, q2, _⟩ := w'
  rcases h with h | h | h | ⟨b, xs, h, g⟩ | ⟨b, xs, h, g⟩ | ⟨b, xs, h, g⟩
  · exact .inl h
  · exact .inr (.inl h)
  · exact .inr (.inr (.inl h))
  · by_cases e : b = a
    · exact .inr (.inr (.inr (.inl ⟨b, _, h, by rw [e]; exact q2⟩)))
    · exact .inr (.inr (.inr (.inl ⟨b, xs, h, bt _ _ e g⟩)))
  · exact .inr (.inr (.inr (.inr (.inl ⟨b, xs, h, bt _ _ (fun z => by rw [z, q1] at g; cases g) g⟩))))
  · exact .inr (.inr (.inr (.inr (.inr ⟨b, xs, h, bt _ _ (fun z => by rw [z, q1] at g; cases g) g⟩))))
theorem nv_wb {x : V} {o : Option Int} (h : NV H x o) (w : Well H a n) (w' : Well H' a m) (bt : But a H H') : NV H' x o := by
  cases o with
  | none => exact oddv_wb h w w' bt
  | some m => exact h
theorem jt_wb {x : V} {b : Bool} (h : JT K H x b) (w : Well H a n) (w' : Well H' a m) (bt : But a H H') : JT K H' x b := by
  obtain ⟨x1, y1, c1, q1, q1'⟩ := id w
  rcases h with ⟨t, kd, cv, zv, co, zo, rfl, h1, h2, h3, rfl⟩ | ⟨rfl, h | h | h | h | ⟨t, xs, h, g⟩ | ⟨t, kvs, h, g⟩ | ⟨t, xs, h, g, n⟩ | ⟨t, k, c, z, h, g, n⟩⟩
  · exact .inl ⟨t, kd, cv, zv, co, zo, rfl, sqt_wb h1 w bt, nv_wb h2 w w' bt, nv_wb h3 w w' bt, rfl⟩
  · exact .inr ⟨rfl, .inl h⟩
  · exact .inr ⟨rfl, .inr (.inl h)⟩
  · exact .inr ⟨rfl, .inr (.inr (.inl h))⟩
  · exact .inr ⟨rfl, .inr (.inr (.inr (.inl h)))⟩
  · obtain ⟨ys, g'⟩ := sql_wb g w w' bt
    exact .inr ⟨rfl, .inr (.inr (.inr (.inr (.inl ⟨t, ys, h, g'⟩))))⟩
  · exact .inr ⟨rfl, .inr (.inr (.inr (.inr (.inr (.inl ⟨t, kvs, h, bt _ _ (fun z => by rw [z, q1] at g; cases g) g⟩)))))⟩
  · exact .inr ⟨rfl, .inr (.inr (.inr (.inr (.inr (.inr (.inl ⟨t, xs, h, sqt_wb g w bt, n⟩))))))⟩
  · refine .inr ⟨rfl, .inr (.inr (.inr (.inr (.inr (.inr (.inr ⟨t, k, c, z, h, sqt_wb g w bt, ?_⟩))))))⟩
    rcases n with n | n | n | ⟨b, xs, n, g⟩ | ⟨b, xs, n, g⟩
    · exact .inl n
    · exact .inr (.inl n)
    · exact .inr (.inr (.inl n))
    · obtain ⟨ys, g'⟩ := sql_wb g w w' bt
      exact .inr (.inr (.inr (.inl ⟨b, ys, n, g'⟩)))
    · exact .inr (.inr (.inr (.inr ⟨b, xs, n, sqt_wb g w bt⟩)))
end
section
variable {K : PySem.W.Frag} {σ : L2.St} {H : Hp} {ta tb te tl : TE} {D : Ends} {tu tz : TS}
theorem ewl_catN {a : Addr} {d : Nat} {xs : List V} {PB : List V → Prop} (ha : EvL ta σ (hid a H) xs) (hb : EvWL a d tb σ H PB) (hz : ∀ ys, PB ys → xs.length + ys.length ≤ 100000) : EvWL a d (tOp rCat ta tb) σ H (fun zs => ∃ ys, PB ys ∧ zs = xs ++ ys) := fun n H1 b w l Q q =>
  ha H1 (ex_hid b) _ fun p H2 hp e2 g2 => hb n H2 (b.trans (But.ex e2)) (w.ex e2) l _ fun r ys H3 hr b3 w3 h3 py => ⟨p, r, xs, ys, rfl, rfl, b3 _ _ (w.ne hp) g2, h3, sz_of (hz ys py), fun l hl => q l _ _ (but_free ((But.ex e2).trans b3) w3 hl) (((But.ex e2).trans b3).trans (But.new hl)) (w3.ex (Ex.new hl)) upd_same ⟨ys, py, rfl⟩⟩
end
def EvAR (t : TA) (σ : L2.St) (H : Hp) (ts : List Tm) : Prop := ∀ H1, Ex H H1 → ∀ Q : List V → Hp → Prop, (∀ (as : List Addr) H2, Ex H1 H2 → as.length = ts.length → (∀ (i : Nat) (b : Addr) (x : Tm), as[i]? = some b → ts[i]? = some x → H2 b = some (.tup (tv x))) → Q (as.map V.ref) H2) → t σ H1 Q
section
variable {K : PySem.W.Frag} {σ : L2.St} {H : Hp} {te ta tb : TE} {t : TA} {ts us : List Tm} {D : Ends}
theorem ear_nil : EvAR tNil σ H [] := fun H1 e Q q => q [] H1 (Ex.refl H1) rfl (fun _ _ _ h => nomatch h)
theorem ear_cons {x : Tm} (h : EvU te σ H (tv x)) (r : EvAR t σ H ts) : EvAR (tCons te t) σ H (x :: ts) := fun H1 e Q q => h H1 e _ fun u H2 hu e2 g => r H2 (e.trans e2) _ fun as H3 e3 l f => q (u :: as) H3 (e2.trans e3) (by simp [l]) fun i b y a c => by
  cases i with
  | zero =>
    cases a
    cases c
    exact e3 _ _ g
  | succ i => exact f i b y a c
theorem er_lst (h : EvAR t σ H ts) (l : ts.length ≤ 1000) : EvR (tLst t) σ H ts := fun H1 e Q q => h H1 e _ fun as H2 e2 la f => ⟨sz_of (by rw [List.length_map]; omega), fun p hp => q p _ (fresh_back e2 hp) (e2.trans (Ex.new hp)) ⟨as, upd_same, la, fun i b x a c => (Ex.new hp) _ _ (f i b x a c)⟩⟩
end
theorem jt_ex {K : PySem.W.Frag} {H H' : Hp} {x : V} {b : Bool} (h : JT K H x b) (e : Ex H H') : JT K H' x b := by
  rcases h with ⟨a, kd, cv, zv, co, zo, rfl, h1, h2, h3, rfl⟩ | ⟨rfl, h | h | h | h | ⟨a, xs, h, g⟩ | ⟨a, kvs, h, g⟩ | ⟨a, xs, h, g, n⟩ | ⟨a, k, c, z, h, g, n⟩⟩
  · exact .inl ⟨a, kd, cv, zv, co, zo, rfl, ex_t e h1, h2.ex e, h3.ex e, rfl⟩
  · exact .inr ⟨rfl, .inl h⟩
  · exact .inr ⟨rfl, .inr (.inl h)⟩
  · exact .inr ⟨rfl, .inr (.inr (.inl h))⟩
  · exact .inr ⟨rfl, .inr (.inr (.inr (.inl h)))⟩
  · exact .inr ⟨rfl, .inr (.inr (.inr (.inr (.inl ⟨a, xs, h, ex_l e g⟩))))⟩
  · exact .inr ⟨rfl, .inr (.inr (.inr (.inr (.inr (.inl ⟨a, kvs, h, e _ _ g⟩)))))⟩
  · exact .inr ⟨rfl, .inr (.inr (.inr (.inr (.inr (.inr (.inl ⟨a, xs, h, ex_t e g, n⟩))))))⟩
  · refine .inr ⟨rfl, .inr (.inr (.inr (.inr (.inr (.inr (.inr ⟨a, k, c, z, h, ex_t e g, ?_⟩))))))⟩
    rcases n with n | n | n | ⟨b, xs, n, g⟩ | ⟨b, xs, n, g⟩
    · exact .inl n
    · exact .inr (.inl n)
    · exact .inr (.inr (.inl n))
    · exact .inr (.inr (.inr (.inl ⟨b, xs, n, ex_l e g⟩)))
    · exact .inr (.inr (.inr (.inr ⟨b, xs, n, ex_t e g⟩)))
theorem KO.ex {H H' : Hp} {k : V} (h : KO H k) (e : Ex H H') : KO H' k := by
  rcases h with h | ⟨b, xs, h, g⟩ | ⟨b, xs, h, g⟩
  · exact .inl h
  · exact .inr (.inl ⟨b, xs, h, e _ _ g⟩)
  · exact .inr (.inr ⟨b, xs, h, e _ _ g⟩)

def JF (K : PySem.W.Frag) : V → Hp → Prop := fun v H => JT K H v false
theorem allp_ex {K : PySem.W.Frag} {H H' : Hp} {n : Nat} {xs : List V} (h : AllP (JF K) n xs H) (e : Ex H H') : AllP (JF K) n xs H' := ⟨h.1, fun v hv => jt_ex (h.2 v hv) e⟩
theorem allp_app {K : PySem.W.Frag} {H : Hp} {n m : Nat} {xs ys : List V} (h : AllP (JF K) n xs H) (h' : AllP (JF K) m ys H) : AllP (JF K) (n + m) (xs ++ ys) H := ⟨by rw [List.length_append, h.1, h'.1], fun v hv => by
  rcases List.mem_append.mp hv with hv | hv
  · exact h.2 v hv
  · exact h'.2 v hv⟩
section
variable {K : PySem.W.Frag} {σ : L2.St} {H : Hp} {ta tb tc te tl : TE} {D : Ends} {tu tz : TS} {sp : Sp} {E : XK} {x y v z : V} {xs : List V} {ts : List Tm}
theorem ev_cVLC (h1 : Ev ta σ H x) (h2 : EvL tb σ H xs) (h3 : ∀ H1, Ex H H1 → Ev tc σ H1 y) (hs : ∀ p H1, Ex H H1 → H1 p = some (.lst xs) → SpV sp [x, .ref p, y] H1 v) : Ev (tCall sp [] E (tCons ta (tCons tb (tCons tc tNil)))) σ H v := fun H1 e Q q =>
  h1 H1 e _ fun H2 e2 => h2 H2 (e.trans e2) _ fun p H3 hp e3 g3 => h3 H3 ((e.trans e2).trans e3) H3 (Ex.refl H3) _ fun H4 e4 => hs p H4 (((e.trans e2).trans e3).trans e4) (e4 _ _ g3) H4 (Ex.refl H4) Q (fun H5 e5 => q H5 (((e2.trans e3).trans e4).trans e5)) E
theorem ev_cVRC (h1 : Ev ta σ H x) (h2 : EvR tb σ H ts) (h3 : ∀ H1, Ex H H1 → Ev tc σ H1 y) (hs : ∀ r H1, Ex H H1 → Rul H1 r ts → SpV sp [x, .ref r, y] H1 v) : Ev (tCall sp [] E (tCons ta (tCons tb (tCons tc tNil)))) σ H v := fun H1 e Q q =>
  h1 H1 e _ fun H2 e2 => h2 H2 (e.trans e2) _ fun r H3 hr e3 R => h3 H3 ((e.trans e2).trans e3) H3 (Ex.refl H3) _ fun H4 e4 => hs r H4 (((e.trans e2).trans e3).trans e4) (R.ex e4) H4 (Ex.refl H4) Q (fun H5 e5 => q H5 (((e2.trans e3).trans e4).trans e5)) E
theorem ev_neTT {as bs : List (List Nat)} (ha : strsOk as) (hb : strsOk bs) (h1 : EvL ta σ H (vs as)) (h2 : EvL tb σ H (vs bs)) : Ev (tOp (rNeD K) ta tb) σ H (.bl (!decide (as = bs))) := fun H1 e Q k =>
  h1 H1 e _ fun p H2 _ e2 g2 => h2 H2 (e.trans e2) _ fun q H3 _ e3 g3 => ⟨.list (ds as), .list (ds bs), .lst (sq_of (e3 _ _ g2)) (dpAll_strs K H3 as), .lst (sq_of g3) (dpAll_strs K H3 bs), shaped_strs ha, shaped_strs hb, by
    rw [PyData.eqv, eqvAll_strs]
    exact k H3 (e2.trans e3)⟩
theorem sw_no {a : Addr} {d n : Nat} (h : EvW a d te σ H (fun v => v = .bl false)) (w : Well H a n) (l : n + d ≤ 2 ^ 50) (k : ∀ H1, But a H H1 → Well H1 a (n + d) → D.nx σ H1) : tIfS (tTest te) tu tNext D σ H :=
  h n H (But.refl a H) w l _ fun v H1 b1 w1 e => ⟨false, e, iteF (k H1 b1 w1)⟩
theorem ew_cWL {a : Addr} {d : Nat} {PL : List V → Prop} (hx : Ev ta σ (hid a H) x) (h : EvWL a d tl σ H PL) (hy : ∀ H1, Ev tc σ H1 y) (hs : ∀ p xs m H1, But a H H1 → Well H1 a m → H1 p = some (.lst xs) → PL xs → SpV sp [x, .ref p, y] H1 z) : EvW a d (tCall sp [] E (tCons ta (tCons tl (tCons tc tNil)))) σ H (fun v => v = z) := fun n H1 b w l Q q =>
  hx H1 (ex_hid b) _ fun H2 e2 => h n H2 (b.trans (But.ex e2)) (w.ex e2) l _ fun p xs H3 hp b3 w3 g3 px => hy H3 H3 (Ex.refl H3) _ fun H4 e4 =>
    hs p xs (n + d) H4 (((b.trans (But.ex e2)).trans b3).trans (But.ex e4)) (w3.ex e4) (e4 _ _ g3) px H4 (Ex.refl H4) Q (fun H5 e5 => q _ H5 ((((But.ex e2).trans b3).trans (But.ex e4)).trans (But.ex e5)) ((w3.ex e4).ex e5) rfl) E
theorem ewl_slT {a : Addr} {d : Nat} {g : Addr} {P : V → Prop} (hv : Ev tl σ (hid a H) (.ref g)) (gx : H g = some (.lst xs)) (ng : g ≠ a) (h : EvW a d te σ H P) (hP : ∀ v, P v → ∃ k : Nat, v = .int (k : Int)) : EvWL a d (tSl (rSlL K) tl tNoPart (tPart te)) σ H (fun ys => ∃ k : Nat, ys = xs.take k) := fun n H1 b w l Q q =>
  hv H1 (ex_hid b) _ fun H2 e2 => h n H2 (b.trans (But.ex e2)) (w.ex e2) l _ fun v H3 b3 w3 pv => by
    obtain ⟨k, rfl⟩ := hP v pv
    refine ⟨_, rfl, g, xs, rfl, sq_of (((b.trans (But.ex e2)).trans b3) _ _ ng gx), fun p hp => q p _ _ (but_free ((But.ex e2).trans b3) w3 hp) (((But.ex e2).trans b3).trans (But.new hp)) (w3.ex (Ex.new hp)) upd_same ⟨k, cut_take _ k⟩⟩
end
def termT (i : Nat) : List Nat := [116, 101, 114, 109] ++ numT (i : Int)
def manyT : List Nat := [109, 97, 110, 121]
def numbT : List Nat := [110, 117, 109, 98, 101, 114]
def barT1 : List Nat := [98, 97, 114, 114, 101, 100, 49]
def gts : List Tm := [⟨0, 1000000, 40⟩, ⟨0, 5, -40⟩, ⟨1, 1000000, 300⟩, ⟨1, 3, 1⟩]
theorem gts_ok : ∀ t ∈ gts, TmOk t := fun t h => by
  simp only [gts, List.mem_cons, List.not_mem_nil, or_false] at h
  rcases h with rfl | rfl | rfl | rfl <;> exact ⟨by decide, by decide, by decide, by decide, by decide, by decide⟩
def calm3 : List Tm := [⟨1, 1000000, 300⟩, ⟨1, 3, 1⟩, ⟨0, 1000000, 40⟩]
def freeB (r : List Int) : Bool := allB (fun i => decide (0 ≤ (newL r).getD i 0) && decide ((newL r).getD i 0 % ((i + 1 : Nat) : Int) = 0)) r.length
theorem free_B {r : List Int} (h : freeB r = true) : Free r := fun i hi => by
  have a := allB_get h i (by omega)
  rw [Bool.and_eq_true] at a
  have b := of_decide_eq_true a.1
  have c := of_decide_eq_true a.2
  refine ⟨(newL r).getD i 0 / ((i + 1 : Nat) : Int), Int.ediv_nonneg b (by omega), ?_⟩
  have := Int.mul_ediv_add_emod ((newL r).getD i 0) ((i + 1 : Nat) : Int)
  omega
theorem calm3_ok : Calm calm3 := by
  have e0 : ∀ k, smO calm3 0 k = if k = 40 then 1000000 else 0 := fun k => by
    unfold smO calm3
    by_cases c : k = 40
    · subst c
      decide
    · rw [if_neg c]
      have c' : ¬ (40 : Int) = k := fun z => c z.symm
      simp [c']
  have e1 : ∀ k, smO calm3 1 k = (if k = 300 then 1000000 else 0) + (if k = 1 then 3 else 0) := fun k => by
    unfold smO calm3
    by_cases c : k = 300
    · subst c
      decide
    · by_cases c2 : k = 1
      · subst c2
        decide
      · rw [if_neg c, if_neg c2]
        have c' : ¬ (300 : Int) = k := fun z => c z.symm
        have c2' : ¬ (1 : Int) = k := fun z => c2 z.symm
        simp [c', c2']
  refine ⟨free_B (by decide +kernel), fun k => by unfold smO calm3; simp, fun k h => ?_, fun k h => ?_⟩
  · rw [e0] at h ⊢
    split at h
    · rename_i c
      rw [if_pos c]
      omega
    · exact absurd rfl h
  · rw [e1] at h ⊢
    split <;> split <;> omega
theorem ruv_neg : (ruv [⟨0, -1, 2⟩] 24).getD 0 0 < 0 := by decide
theorem nlen {i : Nat} (h : i ≤ 5000) : (numT (i : Int)).length ≤ 62 := num_len (numok_of (by omega) (by omega))

theorem lg1920 {i : Nat} (h : i ≤ 5000) : ((i : Int)).natAbs.log2 < 1920 := by
  have : ((i : Int)).natAbs < 2 ^ 13 := by
    rw [Int.natAbs_natCast]
    exact Nat.lt_of_le_of_lt h (by decide)
  exact Nat.lt_of_lt_of_le (PySem.Flt.log2_lt_of (by decide) this) (by decide)

section
variable {K : PySem.W.Frag} {σ : L2.St} {H H' : Hp} {ta tb tc te tl ti : TE} {D : Ends} {tu tz : TS}
theorem s_forUP {j n : Nat} {PL : List V → Hp → Prop} (h : EvUP tl σ H PL) (Pv : Addr → List V → Nat → L2.St → Hp → Prop) (h0 : ∀ p xs H1, H p = none → Ex H H1 → H1 p = some (.tup xs) → PL xs H1 → Pv p xs 0 σ H1)
    (hl : ∀ p xs i σ' H', i ≤ xs.length → Pv p xs i σ' H' → SqT K H' p xs)
    (hs : ∀ p xs i x σ' H', xs[i]? = some x → Pv p xs i σ' H' → tu { D with nx := Pv p xs (i + 1), ct := Pv p xs (i + 1), bk := D.nx } (σ'.set j (some x)) H') (hd : ∀ p xs σ' H', Pv p xs xs.length σ' H' → D.nx σ' H') : tFor (iTup K tl) (gName j) tu D σ H :=
  h H (Ex.refl H) _ fun p xs H1 hp e h1 px => ⟨p, rfl, ⟨xs, st_of h1⟩, for_tup (Pv p xs) (h0 p xs H1 hp e h1 px) (hl p xs) (fun i x σ' H' hx k => hs p xs i x σ' H' hx k) (hd p xs)⟩
theorem ew_ixA {a g : Addr} {d : Nat} {xs : List V} {P P1 : V → Prop} (hl : Ev tl σ (hid a H) (.ref g)) (gx : H g = some (.lst xs)) (ng : g ≠ a) (hi : EvW a d ti σ H P) (hP : ∀ v, P v → ∃ (i : Int) (x : V), v = .int i ∧ atI xs i = some x ∧ P1 x) : EvW a d (tOp (rIxL K) tl ti) σ H P1 := fun n H1 b w l Q q =>
  hl H1 (ex_hid b) _ fun H2 e2 => hi n H2 (b.trans (But.ex e2)) (w.ex e2) l _ fun v H3 b3 w3 pv => by
    obtain ⟨i, x, rfl, hx, px⟩ := hP v pv
    exact ⟨g, xs, i, x, rfl, rfl, sq_of (((b.trans (But.ex e2)).trans b3) _ _ ng gx), hx, q x H3 ((But.ex e2).trans b3) w3 px⟩
theorem rv_neSame (t : Str) : RV rNe (.str t) (.str t) H (.bl false) := by
  have := rv_ne (H := H) (x := V.str t) (y := V.str t) rfl
  simpa using this
theorem given_const (n : Nat) (t : List Nat) : given n (fun _ => true) (fun _ => V.str (S t)) = vs (List.replicate n t) := by
  rw [given_all]
  unfold vs
  rw [List.map_replicate]
  refine List.ext_getElem (by simp) fun i h1 h2 => by simp
end
structure Pk (K : PySem.W.Frag) (a g rl bp a0 a1 a2 a3 : Addr) (rs bs : List V) (H : Hp) : Prop where
  gg : H g = some (.lst [.ref a0, .ref a1, .ref a2, .ref a3])
  g0 : H a0 = some (.tup (tv ⟨0, 1000000, 40⟩))
  g1 : H a1 = some (.tup (tv ⟨0, 5, -40⟩))
  g2 : H a2 = some (.tup (tv ⟨1, 1000000, 300⟩))
  g3 : H a3 = some (.tup (tv ⟨1, 3, 1⟩))
  gr : H rl = some (.lst rs)
  rm : ∀ v ∈ rs, v = .ref a0 ∨ v = .ref a1 ∨ v = .ref a2 ∨ v = .ref a3
  gb : H bp = some (.lst bs)
  jb : ∀ v ∈ bs, JT K H v false
  ng : g ≠ a
  nr : rl ≠ a
  nb : bp ≠ a
section
variable {K : PySem.W.Frag} {a g rl bp a0 a1 a2 a3 : Addr} {rs bs : List V} {H H' : Hp}
theorem Pk.ex (h : Pk K a g rl bp a0 a1 a2 a3 rs bs H) (e : Ex H H') : Pk K a g rl bp a0 a1 a2 a3 rs bs H' :=
  ⟨e _ _ h.gg, e _ _ h.g0, e _ _ h.g1, e _ _ h.g2, e _ _ h.g3, e _ _ h.gr, h.rm, e _ _ h.gb, fun v hv => jt_ex (h.jb v hv) e, h.ng, h.nr, h.nb⟩
theorem Pk.but {n m : Nat} (h : Pk K a g rl bp a0 a1 a2 a3 rs bs H) (w : Well H a n) (w' : Well H' a m) (b : But a H H') : Pk K a g rl bp a0 a1 a2 a3 rs bs H' := by
  obtain ⟨xa, ga⟩ := well_lst w
  exact ⟨b _ _ h.ng h.gg, b _ _ (tup_lst h.g0 ga) h.g0, b _ _ (tup_lst h.g1 ga) h.g1, b _ _ (tup_lst h.g2 ga) h.g2, b _ _ (tup_lst h.g3 ga) h.g3, b _ _ h.nr h.gr, h.rm, b _ _ h.nb h.gb, fun v hv => jt_wb (h.jb v hv) w w' b, h.ng, h.nr, h.nb⟩
theorem jt_good {b : Addr} {t : Tm} (g : H b = some (.tup (tv t))) (ok : TmOk t) : JT K H (.ref b) true := jt_same (jt_tm (st_of g)) ((tmB_iff ok.w2).mpr ok)
theorem Pk.j0 (h : Pk K a g rl bp a0 a1 a2 a3 rs bs H) : JT K H (.ref a0) true := jt_good h.g0 ⟨by decide, by decide, by decide, by decide, by decide, by decide⟩
theorem Pk.jr (h : Pk K a g rl bp a0 a1 a2 a3 rs bs H) {v : V} (hv : v ∈ rs) : JT K H v true := by
  rcases h.rm v hv with rfl | rfl | rfl | rfl
  · exact h.j0
  · exact jt_good h.g1 ⟨by decide, by decide, by decide, by decide, by decide, by decide⟩
  · exact jt_good h.g2 ⟨by decide, by decide, by decide, by decide, by decide, by decide⟩
  · exact jt_good h.g3 ⟨by decide, by decide, by decide, by decide, by decide, by decide⟩
theorem Pk.calm (h : Pk K a g rl bp a0 a1 a2 a3 rs bs H) {p : Addr} (gp : H p = some (.lst [.ref a2, .ref a3, .ref a0])) : Rul H p calm3 := ⟨[a2, a3, a0], gp, rfl, fun i b t x y => by
  match i, x, y with
  | 0, x, y =>
    cases x
    cases y
    exact h.g2
  | 1, x, y =>
    cases x
    cases y
    exact h.g3
  | 2, x, y =>
    cases x
    cases y
    exact h.g0⟩
theorem Pk.good (h : Pk K a g rl bp a0 a1 a2 a3 rs bs H) : Rul H g gts := ⟨[a0, a1, a2, a3], h.gg, rfl, fun i b t x y => by
  match i, x, y with
  | 0, x, y =>
    cases x
    cases y
    exact h.g0
  | 1, x, y =>
    cases x
    cases y
    exact h.g1
  | 2, x, y =>
    cases x
    cases y
    exact h.g2
  | 3, x, y =>
    cases x
    cases y
    exact h.g3⟩
end
theorem calm3_tm : ∀ t ∈ calm3, TmOk t := fun t h => by
  simp only [calm3, List.mem_cons, List.not_mem_nil, or_false] at h
  rcases h with rfl | rfl | rfl <;> exact ⟨by decide, by decide, by decide, by decide, by decide, by decide⟩
theorem numT_lt {n : Nat} (h : n < 10) : numT (n : Int) = [48 + n] := by
  unfold numT
  rw [if_neg (by omega), Int.natAbs_natCast, TL.numL_lt h]
theorem t12 : termT 12 = [116, 101, 114, 109, 49, 50] := by
  unfold termT numT
  rw [if_neg (by decide), show ((12 : Nat) : Int).natAbs = 12 from rfl, TL.numL_step (by decide), TL.numL_lt (by decide)]
  rfl
theorem t0' : termT 0 = [116, 101, 114, 109, 48] := by
  unfold termT
  rw [numT_lt (by decide)]
  rfl
theorem t3' : termT 3 = [116, 101, 114, 109, 51] := by
  unfold termT
  rw [numT_lt (by decide)]
  rfl
theorem bad_item {K : PySem.W.Frag} {H : Hp} {rs ys : List V} {x : V} (h1 : rs.length < 12) (h2 : ys.length ≤ 4) (hr : ∀ v ∈ rs, JT K H v true) (hx : JT K H x false) : BadL K H (rs ++ [x] ++ ys) rs.length := by
  refine ⟨by simp, by simp; omega, fun k v hk hv => ⟨by omega, ?_⟩, .inr ⟨x, ?_, hx⟩⟩
  · rw [List.append_assoc, List.getElem?_append_left hk] at hv
    exact hr v (List.mem_of_getElem? hv)
  · rw [List.append_assoc, List.getElem?_append_right (Nat.le_refl _), Nat.sub_self]
    rfl
theorem bad_rep {K : PySem.W.Frag} {H : Hp} {xs ys : List V} {n : Nat} (ln : xs.length = n) (h2 : ys.length ≤ 50) (hr : ∀ v ∈ xs, JT K H v true) (h : (n = 13 ∧ ys.length ≤ 1) ∨ (n ≤ 12 ∧ ∃ v zs, ys = v :: zs ∧ JT K H v false)) : BadL K H (xs ++ ys) (if n = 13 then 12 else n) := by
  have at' : ∀ k v, k < n → (xs ++ ys)[k]? = some v → JT K H v true := fun k v hk hv => by
    rw [List.getElem?_append_left (by omega)] at hv
    exact hr v (List.mem_of_getElem? hv)
  rcases h with ⟨h, _⟩ | ⟨h, v, zs, e, j⟩
  · rw [if_pos h]
    exact ⟨by rw [List.length_append]; omega, by rw [List.length_append]; omega, fun k v hk hv => ⟨hk, at' k v (by omega) hv⟩, .inl (by decide)⟩
  · rw [if_neg (by omega)]
    exact ⟨by rw [List.length_append, e, List.length_cons]; omega, by rw [List.length_append]; omega, fun k v hk hv => ⟨by omega, at' k v hk hv⟩, .inr ⟨v, by rw [List.getElem?_append_right (by omega), ln, Nat.sub_self, e]; rfl, j⟩⟩

end My
namespace My
open PySem PySem.Spec PyProof.Rows L2 Evl Bk
open SX

def topS (i : Nat) : Stmt := PySem.Challenge.pw_backafter_k35_rules_refused.main.body.getD i (.Pass ⟨0, 0, 0, 0⟩)
abbrev s_is_whole : Stmt := topS 12
theorem sc_is_whole : FnScope ["value"] ["value"] (defScope s_is_whole) := ⟨rfl, rfl, rfl, by decide +kernel, rfl, by decide +kernel, by decide +kernel⟩
abbrev s_to_power : Stmt := topS 20
theorem sc_to_power : FnScope ["base", "power", "found", "square", "rest"] ["base", "power"] (defScope s_to_power) := ⟨rfl, rfl, rfl, by decide +kernel, rfl, by decide +kernel, by decide +kernel⟩
abbrev s_signed_divisors : Stmt := topS 24
theorem sc_signed_divisors : FnScope ["n", "found", "rest", "prime", "divisor", "sign"] ["n"] (defScope s_signed_divisors) := ⟨rfl, rfl, rfl, by decide +kernel, rfl, by decide +kernel, by decide +kernel⟩
abbrev s_weights : Stmt := topS 26
theorem sc_weights : FnScope ["pairs", "found", "base", "weight"] ["pairs"] (defScope s_weights) := ⟨rfl, rfl, rfl, by decide +kernel, rfl, by decide +kernel, by decide +kernel⟩
abbrev s_next_doubt : Stmt := topS 27
theorem sc_next_doubt : FnScope ["weights", "start", "gains", "losses", "most", "m", "leap", "spare", "fall", "base", "weight", "number"] ["weights", "start"] (defScope s_next_doubt) := ⟨rfl, rfl, rfl, by decide +kernel, rfl, by decide +kernel, by decide +kernel⟩
abbrev s_counts_of : Stmt := topS 39
theorem sc_counts_of : FnScope ["rule", "kind", "counts", "name", "count", "size"] ["rule", "kind"] (defScope s_counts_of) := ⟨rfl, rfl, rfl, by decide +kernel, rfl, by decide +kernel, by decide +kernel⟩
abbrev s_powers : Stmt := topS 42
theorem sc_powers : FnScope ["count", "base", "many", "found", "number", "_"] ["count", "base", "many"] (defScope s_powers) := ⟨rfl, rfl, rfl, by decide +kernel, rfl, by decide +kernel, by decide +kernel⟩
abbrev s_law_pot : Stmt := topS 44
theorem sc_law_pot : FnScope ["script", "k", "cell"] ["script", "k"] (defScope s_law_pot) := ⟨rfl, rfl, rfl, by decide +kernel, rfl, by decide +kernel, by decide +kernel⟩
abbrev s_law_dip : Stmt := topS 45
theorem sc_law_dip : FnScope ["pot", "many", "found", "mixed"] ["pot", "many"] (defScope s_law_dip) := ⟨rfl, rfl, rfl, by decide +kernel, rfl, by decide +kernel, by decide +kernel⟩
abbrev s_is_from_to : Stmt := topS 13
theorem sc_is_from_to : FnScope ["value", "least", "most"] ["value", "least", "most"] (defScope s_is_from_to) := ⟨rfl, rfl, rfl, by decide +kernel, rfl, by decide +kernel, by decide +kernel⟩
abbrev s_check_row : Stmt := topS 14
theorem sc_check_row : FnScope ["row", "number"] ["row"] (defScope s_check_row) := ⟨rfl, rfl, rfl, by decide +kernel, rfl, by decide +kernel, by decide +kernel⟩
abbrev s_new_number : Stmt := topS 22
theorem sc_new_number : FnScope ["powers", "rings", "n", "found", "divisor", "sign", "base", "count"] ["powers", "rings", "n"] (defScope s_new_number) := ⟨rfl, rfl, rfl, by decide +kernel, rfl, by decide +kernel, by decide +kernel⟩
abbrev s_strands : Stmt := topS 25
theorem sc_strands : FnScope ["powers", "odd", "even", "squares", "base", "count"] ["powers"] (defScope s_strands) := ⟨rfl, rfl, rfl, by decide +kernel, rfl, by decide +kernel, by decide +kernel⟩
abbrev s_numbers_of_term : Stmt := topS 41
theorem sc_numbers_of_term : FnScope ["term", "many", "kind", "count", "size", "n"] ["term", "many"] (defScope s_numbers_of_term) := ⟨rfl, rfl, rfl, by decide +kernel, rfl, by decide +kernel, by decide +kernel⟩
abbrev s_is_term : Stmt := topS 17
theorem sc_is_term : FnScope ["value", "kind", "count", "size", "name", "least", "most"] ["value"] (defScope s_is_term) := ⟨rfl, rfl, rfl, by decide +kernel, rfl, by decide +kernel, by decide +kernel⟩
abbrev s_first_below : Stmt := topS 23
theorem sc_first_below : FnScope ["powers", "rings", "start", "found", "times", "weights", "m", "n", "count"] ["powers", "rings", "start"] (defScope s_first_below) := ⟨rfl, rfl, rfl, by decide +kernel, rfl, by decide +kernel, by decide +kernel⟩
abbrev s_new_numbers : Stmt := topS 31
theorem sc_new_numbers : FnScope ["row", "many", "new", "n", "multiple"] ["row"] (defScope s_new_numbers) := ⟨rfl, rfl, rfl, by decide +kernel, rfl, by decide +kernel, by decide +kernel⟩
abbrev s_numbers : Stmt := topS 40
theorem sc_numbers : FnScope ["rule", "many", "row", "term", "number", "more"] ["rule", "many"] (defScope s_numbers) := ⟨rfl, rfl, rfl, by decide +kernel, rfl, by decide +kernel, by decide +kernel⟩
abbrev s_check_many : Stmt := topS 15
theorem sc_check_many : FnScope ["many"] ["many"] (defScope s_check_many) := ⟨rfl, rfl, rfl, by decide +kernel, rfl, by decide +kernel, by decide +kernel⟩
abbrev s_check_number : Stmt := topS 16
theorem sc_check_number : FnScope ["number"] ["number"] (defScope s_check_number) := ⟨rfl, rfl, rfl, by decide +kernel, rfl, by decide +kernel, by decide +kernel⟩
abbrev s_check_rule : Stmt := topS 18
theorem sc_check_rule : FnScope ["rule", "index", "term"] ["rule"] (defScope s_check_rule) := ⟨rfl, rfl, rfl, by decide +kernel, rfl, by decide +kernel, by decide +kernel⟩
abbrev s_first_bar : Stmt := topS 32
theorem sc_first_bar : FnScope ["row", "n", "new"] ["row"] (defScope s_first_bar) := ⟨rfl, rfl, rfl, by decide +kernel, rfl, by decide +kernel, by decide +kernel⟩
abbrev s_told : Stmt := topS 35
theorem sc_told : FnScope ["rule", "many"] ["rule", "many"] (defScope s_told) := ⟨rfl, rfl, rfl, by decide +kernel, rfl, by decide +kernel, by decide +kernel⟩
abbrev s_first_bar_ever : Stmt := topS 36
theorem sc_first_bar_ever : FnScope ["rule", "many", "bar", "n"] ["rule"] (defScope s_first_bar_ever) := ⟨rfl, rfl, rfl, by decide +kernel, rfl, by decide +kernel, by decide +kernel⟩
abbrev s_is_turn_rule : Stmt := topS 37
theorem sc_is_turn_rule : FnScope ["rule"] ["rule"] (defScope s_is_turn_rule) := ⟨rfl, rfl, rfl, by decide +kernel, rfl, by decide +kernel, by decide +kernel⟩
abbrev s_rings_of : Stmt := topS 38
theorem sc_rings_of : FnScope ["rule", "number", "bar"] ["rule", "number"] (defScope s_rings_of) := ⟨rfl, rfl, rfl, by decide +kernel, rfl, by decide +kernel, by decide +kernel⟩
abbrev s_law_call : Stmt := topS 46
theorem sc_law_call : FnScope ["way", "rule", "number_of"] ["way", "rule", "number_of"] (defScope s_law_call) := ⟨rfl, rfl, rfl, by decide +kernel, rfl, by decide +kernel, by decide +kernel⟩
abbrev s_law_word : Stmt := topS 47
theorem sc_law_word : FnScope ["way", "rule", "number_of", "found", "e"] ["way", "rule", "number_of"] (defScope s_law_word) := ⟨rfl, rfl, rfl, by decide +kernel, rfl, by decide +kernel, by decide +kernel⟩
abbrev s_law_right : Stmt := topS 48
theorem sc_law_right : FnScope ["pot", "good", "size", "rule", "bad", "way", "item", "thing", "odd", "k"] ["pot"] (defScope s_law_right) := ⟨rfl, rfl, rfl, by decide +kernel, rfl, by decide +kernel, by decide +kernel⟩
abbrev s_law : Stmt := topS 49
theorem sc_law : FnScope ["script", "k"] ["script"] (defScope s_law) := ⟨rfl, rfl, rfl, by decide +kernel, rfl, by decide +kernel, by decide +kernel⟩
abbrev PP : Program := PySem.Challenge.rw_backafter_k35_rules_refused.prog
abbrev c_Barred : Stmt := clsDef (topS 5) 0
theorem ss_Barred : SupS "n" (defScope c_Barred) := ⟨rfl, rfl, rfl, by decide +kernel, by decide +kernel, by decide +kernel, by decide +kernel, by decide +kernel, by decide +kernel, by decide, by decide, by decide⟩
abbrev c_NoTerm : Stmt := clsDef (topS 6) 0
theorem ss_NoTerm : SupS "index" (defScope c_NoTerm) := ⟨rfl, rfl, rfl, by decide +kernel, by decide +kernel, by decide +kernel, by decide +kernel, by decide +kernel, by decide +kernel, by decide, by decide, by decide⟩
/-- where the defs of the text stand behind the top -/
structure Txt (K : PySem.W.Frag) (mg : Str → Option Value) where
  a_is_whole : Addr
  d_is_whole : FuncData
  F_is_whole : Fun K "is_whole" "is_whole" s_is_whole a_is_whole d_is_whole
  g_is_whole : mg "is_whole" = some (.ref a_is_whole)
  a_to_power : Addr
  d_to_power : FuncData
  F_to_power : Fun K "to_power" "to_power" s_to_power a_to_power d_to_power
  g_to_power : mg "to_power" = some (.ref a_to_power)
  a_signed_divisors : Addr
  d_signed_divisors : FuncData
  F_signed_divisors : Fun K "_signed_divisors" "_signed_divisors" s_signed_divisors a_signed_divisors d_signed_divisors
  g_signed_divisors : mg "_signed_divisors" = some (.ref a_signed_divisors)
  a_weights : Addr
  d_weights : FuncData
  F_weights : Fun K "_weights" "_weights" s_weights a_weights d_weights
  g_weights : mg "_weights" = some (.ref a_weights)
  a_next_doubt : Addr
  d_next_doubt : FuncData
  F_next_doubt : Fun K "_next_doubt" "_next_doubt" s_next_doubt a_next_doubt d_next_doubt
  g_next_doubt : mg "_next_doubt" = some (.ref a_next_doubt)
  a_counts_of : Addr
  d_counts_of : FuncData
  F_counts_of : Fun K "_counts_of" "_counts_of" s_counts_of a_counts_of d_counts_of
  g_counts_of : mg "_counts_of" = some (.ref a_counts_of)
  a_powers : Addr
  d_powers : FuncData
  F_powers : Fun K "_powers" "_powers" s_powers a_powers d_powers
  g_powers : mg "_powers" = some (.ref a_powers)
  a_law_pot : Addr
  d_law_pot : FuncData
  F_law_pot : Fun K "_law_pot" "_law_pot" s_law_pot a_law_pot d_law_pot
  g_law_pot : mg "_law_pot" = some (.ref a_law_pot)
  a_law_dip : Addr
  d_law_dip : FuncData
  F_law_dip : Fun K "_law_dip" "_law_dip" s_law_dip a_law_dip d_law_dip
  g_law_dip : mg "_law_dip" = some (.ref a_law_dip)
  a_is_from_to : Addr
  d_is_from_to : FuncData
  F_is_from_to : Fun K "is_from_to" "is_from_to" s_is_from_to a_is_from_to d_is_from_to
  g_is_from_to : mg "is_from_to" = some (.ref a_is_from_to)
  a_check_row : Addr
  d_check_row : FuncData
  F_check_row : Fun K "check_row" "check_row" s_check_row a_check_row d_check_row
  g_check_row : mg "check_row" = some (.ref a_check_row)
  a_new_number : Addr
  d_new_number : FuncData
  F_new_number : Fun K "new_number" "new_number" s_new_number a_new_number d_new_number
  g_new_number : mg "new_number" = some (.ref a_new_number)
  a_strands : Addr
  d_strands : FuncData
  F_strands : Fun K "_strands" "_strands" s_strands a_strands d_strands
  g_strands : mg "_strands" = some (.ref a_strands)
  a_numbers_of_term : Addr
  d_numbers_of_term : FuncData
  F_numbers_of_term : Fun K "_numbers_of_term" "_numbers_of_term" s_numbers_of_term a_numbers_of_term d_numbers_of_term
  g_numbers_of_term : mg "_numbers_of_term" = some (.ref a_numbers_of_term)
  a_is_term : Addr
  d_is_term : FuncData
  F_is_term : Fun K "is_term" "is_term" s_is_term a_is_term d_is_term
  g_is_term : mg "is_term" = some (.ref a_is_term)
  a_first_below : Addr
  d_first_below : FuncData
  F_first_below : Fun K "first_below" "first_below" s_first_below a_first_below d_first_below
  g_first_below : mg "first_below" = some (.ref a_first_below)
  a_new_numbers : Addr
  d_new_numbers : FuncData
  F_new_numbers : Fun K "new_numbers" "new_numbers" s_new_numbers a_new_numbers d_new_numbers
  g_new_numbers : mg "new_numbers" = some (.ref a_new_numbers)
  a_numbers : Addr
  d_numbers : FuncData
  F_numbers : Fun K "_numbers" "_numbers" s_numbers a_numbers d_numbers
  g_numbers : mg "_numbers" = some (.ref a_numbers)
  a_check_many : Addr
  d_check_many : FuncData
  F_check_many : Fun K "check_many" "check_many" s_check_many a_check_many d_check_many
  g_check_many : mg "check_many" = some (.ref a_check_many)
  a_check_number : Addr
  d_check_number : FuncData
  F_check_number : Fun K "check_number" "check_number" s_check_number a_check_number d_check_number
  g_check_number : mg "check_number" = some (.ref a_check_number)
  a_check_rule : Addr
  d_check_rule : FuncData
  F_check_rule : Fun K "check_rule" "check_rule" s_check_rule a_check_rule d_check_rule
  g_check_rule : mg "check_rule" = some (.ref a_check_rule)
  a_first_bar : Addr
  d_first_bar : FuncData
  F_first_bar : Fun K "first_bar" "first_bar" s_first_bar a_first_bar d_first_bar
  g_first_bar : mg "first_bar" = some (.ref a_first_bar)
  a_told : Addr
  d_told : FuncData
  F_told : Fun K "told" "told" s_told a_told d_told
  g_told : mg "told" = some (.ref a_told)
  a_first_bar_ever : Addr
  d_first_bar_ever : FuncData
  F_first_bar_ever : Fun K "first_bar_ever" "first_bar_ever" s_first_bar_ever a_first_bar_ever d_first_bar_ever
  g_first_bar_ever : mg "first_bar_ever" = some (.ref a_first_bar_ever)
  a_is_turn_rule : Addr
  d_is_turn_rule : FuncData
  F_is_turn_rule : Fun K "is_turn_rule" "is_turn_rule" s_is_turn_rule a_is_turn_rule d_is_turn_rule
  g_is_turn_rule : mg "is_turn_rule" = some (.ref a_is_turn_rule)
  a_rings_of : Addr
  d_rings_of : FuncData
  F_rings_of : Fun K "rings_of" "rings_of" s_rings_of a_rings_of d_rings_of
  g_rings_of : mg "rings_of" = some (.ref a_rings_of)
  a_law_call : Addr
  d_law_call : FuncData
  F_law_call : Fun K "_law_call" "_law_call" s_law_call a_law_call d_law_call
  g_law_call : mg "_law_call" = some (.ref a_law_call)
  a_law_word : Addr
  d_law_word : FuncData
  F_law_word : Fun K "_law_word" "_law_word" s_law_word a_law_word d_law_word
  g_law_word : mg "_law_word" = some (.ref a_law_word)
  a_law_right : Addr
  d_law_right : FuncData
  F_law_right : Fun K "_law_right" "_law_right" s_law_right a_law_right d_law_right
  g_law_right : mg "_law_right" = some (.ref a_law_right)
  a_law : Addr
  d_law : FuncData
  F_law : Fun K "law" "law" s_law a_law d_law
  g_law : mg "law" = some (.ref a_law)
  t_MOST_COUNT : Tok
  c_MOST_COUNT : mg "MOST_COUNT" = some (.int (1000000) t_MOST_COUNT)
  t_MOST_NUMBERS : Tok
  c_MOST_NUMBERS : mg "MOST_NUMBERS" = some (.int (300) t_MOST_NUMBERS)
  t_MOST_TERMS : Tok
  c_MOST_TERMS : mg "MOST_TERMS" = some (.int (12) t_MOST_TERMS)
  t__NEAR : Tok
  c__NEAR : mg "_NEAR" = some (.int (24) t__NEAR)
  a_KINDS : Addr
  a_KINDS_0 : Addr
  a_KINDS_1 : Addr
  a_KINDS_2 : Addr
  g_KINDS : mg "KINDS" = some (.ref a_KINDS)
  q_KINDS : FrT K a_KINDS [.ref a_KINDS_0, .ref a_KINDS_1, .ref a_KINDS_2]
  q_KINDS_0 : FrT K a_KINDS_0 [.str "power", .int (-40), .int (40)]
  q_KINDS_1 : FrT K a_KINDS_1 [.str "ring", .int (1), .int (300)]
  q_KINDS_2 : FrT K a_KINDS_2 [.str "places", .int (1), .int (6)]
  z_abs : mg "abs" = none
  z_all : mg "all" = none
  z_any : mg "any" = none
  z_bool : mg "bool" = none
  z_enumerate : mg "enumerate" = none
  z_int : mg "int" = none
  z_isinstance : mg "isinstance" = none
  z_len : mg "len" = none
  z_list : mg "list" = none
  z_max : mg "max" = none
  z_min : mg "min" = none
  z_range : mg "range" = none
  z_repr : mg "repr" = none
  z_str : mg "str" = none
  z_sum : mg "sum" = none
  z_tuple : mg "tuple" = none
  z_zip : mg "zip" = none
  a_Barred : Addr
  e_Barred : ErrK K mg "Barred" a_Barred
  a_NoMany : Addr
  e_NoMany : ErrK K mg "NoMany" a_NoMany
  x_NoMany : PySem.W.excIn K a_NoMany [.type "ValueError", .type "Exception", .type "BaseException", .type "object"] "ValueError.__new__" = true
  a_NoNumber : Addr
  e_NoNumber : ErrK K mg "NoNumber" a_NoNumber
  x_NoNumber : PySem.W.excIn K a_NoNumber [.type "ValueError", .type "Exception", .type "BaseException", .type "object"] "ValueError.__new__" = true
  a_NoTerm : Addr
  e_NoTerm : ErrK K mg "NoTerm" a_NoTerm
  a_RowError : Addr
  e_RowError : ErrK K mg "RowError" a_RowError
  fi_Barred : Addr
  fd_Barred : FuncData
  s_Barred : SupC PP K mg a_Barred fi_Barred fd_Barred "n" c_Barred
  sb_Barred : Binds K fd_Barred ["self", "n"] []
  fi_NoTerm : Addr
  fd_NoTerm : FuncData
  s_NoTerm : SupC PP K mg a_NoTerm fi_NoTerm fd_NoTerm "index" c_NoTerm
  sb_NoTerm : Binds K fd_NoTerm ["self", "index"] []
  m_Barred_NoMany : PySem.W.subIn K (.ref a_Barred) (.ref a_NoMany) = some false
  m_Barred_NoNumber : PySem.W.subIn K (.ref a_Barred) (.ref a_NoNumber) = some false
  m_Barred_NoTerm : PySem.W.subIn K (.ref a_Barred) (.ref a_NoTerm) = some false
  m_Barred_RowError : PySem.W.subIn K (.ref a_Barred) (.ref a_RowError) = some true
  m_NoMany_Barred : PySem.W.subIn K (.ref a_NoMany) (.ref a_Barred) = some false
  m_NoMany_NoNumber : PySem.W.subIn K (.ref a_NoMany) (.ref a_NoNumber) = some false
  m_NoMany_NoTerm : PySem.W.subIn K (.ref a_NoMany) (.ref a_NoTerm) = some false
  m_NoMany_RowError : PySem.W.subIn K (.ref a_NoMany) (.ref a_RowError) = some true
  m_NoNumber_Barred : PySem.W.subIn K (.ref a_NoNumber) (.ref a_Barred) = some false
  m_NoNumber_NoMany : PySem.W.subIn K (.ref a_NoNumber) (.ref a_NoMany) = some false
  m_NoNumber_NoTerm : PySem.W.subIn K (.ref a_NoNumber) (.ref a_NoTerm) = some false
  m_NoNumber_RowError : PySem.W.subIn K (.ref a_NoNumber) (.ref a_RowError) = some true
  m_NoTerm_Barred : PySem.W.subIn K (.ref a_NoTerm) (.ref a_Barred) = some false
  m_NoTerm_NoMany : PySem.W.subIn K (.ref a_NoTerm) (.ref a_NoMany) = some false
  m_NoTerm_NoNumber : PySem.W.subIn K (.ref a_NoTerm) (.ref a_NoNumber) = some false
  m_NoTerm_RowError : PySem.W.subIn K (.ref a_NoTerm) (.ref a_RowError) = some true
section
variable {P : Program} {w : World} {K : PySem.W.Frag} {mg : Str → Option Value} {base : Heap}
theorem b_is_whole (T : Txt K mg) : Binds K T.d_is_whole ["value"] [] := T.F_is_whole.binds fun _ _ _ _ _ _ us hl => match us, hl with | [_], _ => rfl
theorem b_to_power (T : Txt K mg) : Binds K T.d_to_power ["base", "power"] [] := T.F_to_power.binds fun _ _ _ _ _ _ us hl => match us, hl with | [_, _], _ => rfl
theorem b_signed_divisors (T : Txt K mg) : Binds K T.d_signed_divisors ["n"] [] := T.F_signed_divisors.binds fun _ _ _ _ _ _ us hl => match us, hl with | [_], _ => rfl
theorem b_weights (T : Txt K mg) : Binds K T.d_weights ["pairs"] [] := T.F_weights.binds fun _ _ _ _ _ _ us hl => match us, hl with | [_], _ => rfl
theorem b_next_doubt (T : Txt K mg) : Binds K T.d_next_doubt ["weights", "start"] [] := T.F_next_doubt.binds fun _ _ _ _ _ _ us hl => match us, hl with | [_, _], _ => rfl
theorem b_counts_of (T : Txt K mg) : Binds K T.d_counts_of ["rule", "kind"] [] := T.F_counts_of.binds fun _ _ _ _ _ _ us hl => match us, hl with | [_, _], _ => rfl
theorem b_powers (T : Txt K mg) : Binds K T.d_powers ["count", "base", "many"] [] := T.F_powers.binds fun _ _ _ _ _ _ us hl => match us, hl with | [_, _, _], _ => rfl
theorem b_law_pot (T : Txt K mg) : Binds K T.d_law_pot ["script", "k"] [] := T.F_law_pot.binds fun _ _ _ _ _ _ us hl => match us, hl with | [_, _], _ => rfl
theorem b_law_dip (T : Txt K mg) : Binds K T.d_law_dip ["pot", "many"] [] := T.F_law_dip.binds fun _ _ _ _ _ _ us hl => match us, hl with | [_, _], _ => rfl
theorem b_is_from_to (T : Txt K mg) : Binds K T.d_is_from_to ["value", "least", "most"] [] := T.F_is_from_to.binds fun _ _ _ _ _ _ us hl => match us, hl with | [_, _, _], _ => rfl
theorem b_check_row (T : Txt K mg) : Binds K T.d_check_row ["row"] [] := T.F_check_row.binds fun _ _ _ _ _ _ us hl => match us, hl with | [_], _ => rfl
theorem b_new_number (T : Txt K mg) : Binds K T.d_new_number ["powers", "rings", "n"] [] := T.F_new_number.binds fun _ _ _ _ _ _ us hl => match us, hl with | [_, _, _], _ => rfl
theorem b_strands (T : Txt K mg) : Binds K T.d_strands ["powers"] [] := T.F_strands.binds fun _ _ _ _ _ _ us hl => match us, hl with | [_], _ => rfl
theorem b_numbers_of_term (T : Txt K mg) : Binds K T.d_numbers_of_term ["term", "many"] [] := T.F_numbers_of_term.binds fun _ _ _ _ _ _ us hl => match us, hl with | [_, _], _ => rfl
theorem b_is_term (T : Txt K mg) : Binds K T.d_is_term ["value"] [] := T.F_is_term.binds fun _ _ _ _ _ _ us hl => match us, hl with | [_], _ => rfl
theorem b_first_below (T : Txt K mg) : Binds K T.d_first_below ["powers", "rings", "start"] [] := T.F_first_below.binds fun _ _ _ _ _ _ us hl => match us, hl with | [_, _, _], _ => rfl
theorem b_new_numbers (T : Txt K mg) : Binds K T.d_new_numbers ["row"] [] := T.F_new_numbers.binds fun _ _ _ _ _ _ us hl => match us, hl with | [_], _ => rfl
theorem b_numbers (T : Txt K mg) : Binds K T.d_numbers ["rule", "many"] [] := T.F_numbers.binds fun _ _ _ _ _ _ us hl => match us, hl with | [_, _], _ => rfl
theorem b_check_many (T : Txt K mg) : Binds K T.d_check_many ["many"] [] := T.F_check_many.binds fun _ _ _ _ _ _ us hl => match us, hl with | [_], _ => rfl
theorem b_check_number (T : Txt K mg) : Binds K T.d_check_number ["number"] [] := T.F_check_number.binds fun _ _ _ _ _ _ us hl => match us, hl with | [_], _ => rfl
theorem b_check_rule (T : Txt K mg) : Binds K T.d_check_rule ["rule"] [] := T.F_check_rule.binds fun _ _ _ _ _ _ us hl => match us, hl with | [_], _ => rfl
theorem b_first_bar (T : Txt K mg) : Binds K T.d_first_bar ["row"] [] := T.F_first_bar.binds fun _ _ _ _ _ _ us hl => match us, hl with | [_], _ => rfl
theorem b_told (T : Txt K mg) : Binds K T.d_told ["rule", "many"] [] := T.F_told.binds fun _ _ _ _ _ _ us hl => match us, hl with | [_, _], _ => rfl
theorem b_first_bar_ever (T : Txt K mg) : Binds K T.d_first_bar_ever ["rule"] [] := T.F_first_bar_ever.binds fun _ _ _ _ _ _ us hl => match us, hl with | [_], _ => rfl
theorem b_is_turn_rule (T : Txt K mg) : Binds K T.d_is_turn_rule ["rule"] [] := T.F_is_turn_rule.binds fun _ _ _ _ _ _ us hl => match us, hl with | [_], _ => rfl
theorem b_rings_of (T : Txt K mg) : Binds K T.d_rings_of ["rule", "number"] [] := T.F_rings_of.binds fun _ _ _ _ _ _ us hl => match us, hl with | [_, _], _ => rfl
theorem b_law_call (T : Txt K mg) : Binds K T.d_law_call ["way", "rule", "number_of"] [] := T.F_law_call.binds fun _ _ _ _ _ _ us hl => match us, hl with | [_, _, _], _ => rfl
theorem b_law_word (T : Txt K mg) : Binds K T.d_law_word ["way", "rule", "number_of"] [] := T.F_law_word.binds fun _ _ _ _ _ _ us hl => match us, hl with | [_, _, _], _ => rfl
theorem b_law_right (T : Txt K mg) : Binds K T.d_law_right ["pot"] [] := T.F_law_right.binds fun _ _ _ _ _ _ us hl => match us, hl with | [_], _ => rfl
theorem b_law (T : Txt K mg) : Binds K T.d_law ["script"] [] := T.F_law.binds fun _ _ _ _ _ _ us hl => match us, hl with | [_], _ => rfl
/-! ### is_whole -/
def sp_is_whole (K : PySem.W.Frag) : Sp := fun vs H Q _ => ∃ (x : V) (b : Bool), vs = [x] ∧ ((∃ n, x = .int n ∧ b = true) ∨ (OddV H x ∧ b = false)) ∧ RetV (.bl b) H Q
theorem v_is_whole {K : PySem.W.Frag} {H : Hp} (n : Int) : SpV (sp_is_whole K) [.int n] H (.bl true) := fun H1 e Q q E => ⟨.int n, true, rfl, .inl ⟨n, rfl, rfl⟩, q⟩
theorem v_odd {K : PySem.W.Frag} {H : Hp} {x : V} (h : OddV H x) : SpV (sp_is_whole K) [x] H (.bl false) := fun H1 e Q q E => ⟨x, false, rfl, .inr ⟨h.ex e, rfl⟩, q⟩
theorem ok_is_whole (T : Txt K mg) : FnG PP w K mg base CX0 1 T.a_is_whole T.d_is_whole ["value"] (sp_is_whole K) := by
  refine okG T.F_is_whole sc_is_whole (fun vs H Q E h => ?_) (fun cdv A out s H vs Q E hr h => ?_)
  · obtain ⟨x, b, rfl, hx, q⟩ := h
    rfl
  · obtain ⟨x, b, rfl, hx, q⟩ := h
    refine ⟨_, (pss_one (ps_ret (pe_and (pe_callB (call_isiK' (K := K) rfl) (by rfl) T.z_isinstance bt_isinstance (pa_cons (pv 0) (pa_cons (pe_bltn (v := .ty "int") (by rfl) T.z_int bt_int rfl) pa_nil))) (pe_one (pe_not (pe_callB (call_isiK' (K := K) rfl) (by rfl) T.z_isinstance bt_isinstance (pa_cons (pv 0) (pa_cons (pe_bltn (v := .ty "bool") (by rfl) T.z_bool bt_bool rfl) pa_nil)))))))), ?_⟩
    rcases hx with ⟨n, rfl, rfl⟩ | ⟨hx, rfl⟩
    · exact s_ret (ev_andV (ev_isi (ev_var rfl) (fun _ _ => .base (.int n)) kb_int_int) fun _ => ev_notV (ev_isi (ev_var rfl) (fun _ _ => .base (.int n)) kb_int_bool)) q
    · exact s_ret (ev_odd (ev_var rfl) (ev_var rfl) hx) q
/-! ### to_power -/
def sp_to_power (K : PySem.W.Frag) : Sp := fun vs H Q _ => ∃ (b k : Nat), vs = [.int (b : Int), .int (k : Int)] ∧ (∀ j, j ≤ k → b ^ j < 2 ^ 4000) ∧ RetV (.int ((b ^ k : Nat) : Int)) H Q
theorem v_to_powerW {K : PySem.W.Frag} {H : Hp} {b k : Nat} (hb : ∀ j, j ≤ k → b ^ j < 2 ^ 4000) : SpV (sp_to_power K) [.int (b : Int), .int (k : Int)] H (.int ((b ^ k : Nat) : Int)) := fun H1 e Q q E => ⟨b, k, rfl, hb, q⟩
theorem lt4000 {x : Nat} (h : x < 2 ^ 80) : x < 2 ^ 4000 := Nat.lt_of_lt_of_le h (Nat.pow_le_pow_right (by decide) (by decide))
theorem v_to_power {K : PySem.W.Frag} {H : Hp} {b k : Nat} (hb : b ≤ 5000) (hk : k ≤ 6) : SpV (sp_to_power K) [.int (b : Int), .int (k : Int)] H (.int ((b ^ k : Nat) : Int)) := v_to_powerW fun j hj => lt4000 (Nat.lt_of_le_of_lt (Nat.pow_le_pow_left hb j) (Nat.lt_of_le_of_lt (Nat.pow_le_pow_right (by decide) (show j ≤ 6 by omega)) (by decide)))
theorem pow10_lt {j : Nat} (h : j ≤ 1000) : 10 ^ j < 2 ^ 4000 := Nat.lt_of_le_of_lt (Nat.pow_le_pow_right (by decide) h) (Nat.lt_of_lt_of_le (show 10 ^ 1000 < 16 ^ 1000 from Nat.pow_lt_pow_left (by decide) (by decide)) (Nat.le_of_eq (by rw [show (16 : Nat) = 2 ^ 4 from rfl, ← Nat.pow_mul])))
theorem ok_to_power (T : Txt K mg) : FnG PP w K mg base CX0 1 T.a_to_power T.d_to_power ["base", "power"] (sp_to_power K) := by
  refine okG T.F_to_power sc_to_power (fun vs H Q E h => ?_) (fun cdv A out s H vs Q E hr h => ?_)
  · obtain ⟨b, k, rfl, pw, q⟩ := h
    rfl
  · obtain ⟨b, k, rfl, pw, q⟩ := h
    refine ⟨_, (pss_cons (ps_set (i := 2) sc_to_power.nd rfl (.inl rfl) pe_int)
    (pss_cons (ps_set (i := 3) sc_to_power.nd rfl (.inl rfl) (pv 0))
    (pss_cons (ps_set (i := 4) sc_to_power.nd rfl (.inl rfl) (pv 1))
    (pss_cons (ps_while PassesOwn.never (pt_cmpR op_gt (pv 4) pe_int (nomark _))
      (pss_cons (ps_if (pt_cmpR op_eq (pe_op op_mod (pv 4) pe_int) pe_int (nomark _))
        (pss_one (ps_set (i := 2) sc_to_power.nd rfl (.inl rfl) (pe_op op_mulW (pv 2) (pv 3))))
        pss_nil)
      (pss_cons (ps_set (i := 4) sc_to_power.nd rfl (.inl rfl) (pe_op op_fdivW (pv 4) pe_int))
      (pss_one (ps_if (pt_cmpR op_gt (pv 4) pe_int (nomark _))
        (pss_one (ps_set (i := 3) sc_to_power.nd rfl (.inl rfl) (pe_op op_mulW (pv 3) (pv 3))))
        pss_nil)))))
    (pss_one (ps_ret (pv 2))))))), ?_⟩
    have wm : ∀ x y : Nat, x ≤ k → y ≤ k → CMulW ((b ^ x : Nat) : Int) ((b ^ y : Nat) : Int) := fun x y hx hy => wide_mul (a := 4000) (b := 4000) (by rw [Int.natAbs_natCast]; exact pw x hx) (by rw [Int.natAbs_natCast]; exact pw y hy) (by decide) (by decide) (by decide)
    refine q_asg (v := .int ((b ^ 0 : Nat) : Int)) (ev_is ev_c (by rw [Nat.pow_zero]; rfl)) fun H1 e1 => ?_
    refine q_asg (v := .int ((b ^ 1 : Nat) : Int)) (ev_is (ev_var rfl) (by rw [Nat.pow_one])) fun H2 e2 => ?_
    refine q_asg (ev_var rfl) fun H3 e3 => ?_
    refine q_while (fun m σ' H' => ∃ f s t : Nat, m = t ∧ f + s * t = k ∧ (t = 0 ∨ f < s) ∧ σ' = [some (.int (b : Int)), some (.int (k : Int)), some (.int ((b ^ f : Nat) : Int)), some (.int ((b ^ s : Nat) : Int)), some (.int (t : Int))] ∧ Ex H H') k ?_ ?_
    · exact ⟨0, 1, k, rfl, by omega, .inr (by decide), rfl, (e1.trans e2).trans e3⟩
    rintro t σq H4 ⟨f, s, _, rfl, hs, fs, rfl, e⟩
    refine ⟨decide (0 < t), et_is (et_test (ev_op (ev_var rfl) ev_c (rv_b rfl))) (by simp), ?_, ?_⟩
    · intro hz H5 e5
      have t0 : 0 < t := of_decide_eq_true hz
      have g1 : s ≤ s * t := Nat.le_mul_of_pos_right _ t0
      refine ⟨_, fun σ2 H2 h => h, ?_⟩
      refine q_when (b := decide (t % 2 = 1)) (et_is (et_test (ev_op (ev_op (ev_var rfl) ev_c (rv_I (show (0 : Int) < 2 by decide))) ev_c (rv_eq rfl))) (by simp; omega)) (fun hc H6 e6 => ?_) (fun hc H6 e6 => ?_)
      · obtain ⟨q', rfl⟩ : ∃ q', t = 2 * q' + 1 := ⟨t / 2, by have := of_decide_eq_true hc; omega⟩
        have es : s * (2 * q' + 1) = (s + s) * q' + s := by rw [Nat.mul_add, Nat.mul_one, ← Nat.mul_assoc, Nat.mul_two]
        refine s_asg (v := .int ((b ^ (f + s) : Nat) : Int)) (ev_is (ev_op (ev_var rfl) (ev_var rfl) (rv_I (wm f s (by omega) (by omega)))) (by rw [Nat.pow_add, Int.natCast_mul])) fun H7 e7 => ?_
        have e07 := ((e.trans e5).trans e6).trans e7
        refine q_asg (v := .int ((q' : Nat) : Int)) (ev_is (ev_op (ev_var rfl) ev_c (rv_I (cdw _ (by decide) (by decide)))) (by congr 1; omega)) fun H8 e8 => ?_
        refine s_when (b := decide (0 < q')) (et_is (et_test (ev_op (ev_var rfl) ev_c (rv_b rfl))) (by simp)) (fun hd H9 e9 => ?_) (fun hd H9 e9 => ?_)
        · have q0 : 0 < q' := of_decide_eq_true hd
          have g2 : s + s ≤ (s + s) * q' := Nat.le_mul_of_pos_right _ q0
          refine s_asg (v := .int ((b ^ (s + s) : Nat) : Int)) (ev_is (ev_op (ev_var rfl) (ev_var rfl) (rv_I (wm s s (by omega) (by omega)))) (by rw [Nat.pow_add, Int.natCast_mul])) fun H10 e10 => ?_
          exact ⟨q', by omega, f + s, s + s, q', rfl, by omega, .inr (by omega), rfl, (e07.trans e8).trans (e9.trans e10)⟩
        · have q0 : q' = 0 := by
            have := of_decide_eq_false hd
            omega
          subst q0
          exact ⟨0, by omega, f + s, s, 0, rfl, by omega, .inl rfl, rfl, (e07.trans e8).trans e9⟩
      · obtain ⟨q', rfl⟩ : ∃ q', t = 2 * q' := ⟨t / 2, by have := of_decide_eq_false hc; omega⟩
        have es : s * (2 * q') = (s + s) * q' := by rw [← Nat.mul_assoc, Nat.mul_two]
        have e06 := (e.trans e5).trans e6
        refine q_asg (v := .int ((q' : Nat) : Int)) (ev_is (ev_op (ev_var rfl) ev_c (rv_I (cdw _ (by decide) (by decide)))) (by congr 1; omega)) fun H8 e8 => ?_
        refine s_when (b := decide (0 < q')) (et_is (et_test (ev_op (ev_var rfl) ev_c (rv_b rfl))) (by simp)) (fun hd H9 e9 => ?_) (fun hd H9 e9 => ?_)
        · have q0 : 0 < q' := of_decide_eq_true hd
          have g2 : s + s ≤ (s + s) * q' := Nat.le_mul_of_pos_right _ q0
          refine s_asg (v := .int ((b ^ (s + s) : Nat) : Int)) (ev_is (ev_op (ev_var rfl) (ev_var rfl) (rv_I (wm s s (by omega) (by omega)))) (by rw [Nat.pow_add, Int.natCast_mul])) fun H10 e10 => ?_
          exact ⟨q', by omega, f, s + s, q', rfl, by omega, .inr (by omega), rfl, (e06.trans e8).trans (e9.trans e10)⟩
        · have q0 : q' = 0 := by
            have := of_decide_eq_false hd
            omega
          subst q0
          exact ⟨0, by omega, f, s, 0, rfl, by omega, .inl rfl, rfl, (e06.trans e8).trans e9⟩
    · intro hz H5 e5
      have t0 : t = 0 := by
        have := of_decide_eq_false hz
        omega
      subst t0
      have ek : f = k := by omega
      subst ek
      exact s_ret (ev_var rfl) fun H6 e6 => q H6 ((e.trans e5).trans e6)
/-! ### _signed_divisors -/
def sp_signed_divisors (K : PySem.W.Frag) : Sp := fun vs H Q _ => ∃ n : Nat, vs = [.int (n : Int)] ∧ 1 ≤ n ∧ n ≤ 300 ∧ ∀ (l : Addr) H2, H l = none → Ex H H2 → PrL H2 l (sd n) → Q (.ref l) H2
theorem ndiv {a b : Nat} : ((a : Int) / (b : Int)) = ((a / b : Nat) : Int) := rfl
theorem ok_signed_divisors (T : Txt K mg) : FnG PP w K mg base CX0 1 T.a_signed_divisors T.d_signed_divisors ["n"] (sp_signed_divisors K) := by
  refine okG T.F_signed_divisors sc_signed_divisors (fun vs H Q E h => ?_) (fun cdv A out s H vs Q E hr h => ?_)
  · obtain ⟨n, rfl, n0, n1, q⟩ := h
    rfl
  · obtain ⟨n, rfl, n0, n1, q⟩ := h
    refine ⟨_, (pss_cons (ps_set (i := 1) sc_signed_divisors.nd rfl (.inl rfl) (pe_lst (pa_cons (pe_tup (pa_cons (pv 0) (pa_cons pe_int pa_nil))) pa_nil)))
    (pss_cons (ps_set (i := 2) sc_signed_divisors.nd rfl (.inl rfl) (pv 0))
    (pss_cons (ps_set (i := 3) sc_signed_divisors.nd rfl (.inr rfl) pe_int)
    (pss_cons (ps_while PassesOwn.never (pt_cmpR op_gt (pv 2) pe_int (nomark _))
      (pss_cons (ps_if (pt_cmpR op_gt (pe_op op_mul (pv 3) (pv 3)) (pv 2) (nomark _))
        (pss_one (ps_set (i := 3) sc_signed_divisors.nd rfl (.inr rfl) (pv 2)))
        pss_nil)
      (pss_cut (ps_if (pt_cmpR op_eq (pe_op op_mod (pv 2) (pv 3)) pe_int (nomark _))
        (pss_one (ps_set (i := 1) sc_signed_divisors.nd rfl (.inl rfl) (pe_op op_cat (pv 1) (pe_lc (own := [("divisor", 4), ("sign", 5)]) (g := g2 K 4 5) rfl sc_signed_divisors.nd (pi_listK (K := K) rfl (pv 1)) (blkOk_by (own := [("divisor", 4), ("sign", 5)]) (N := ["n", "found", "rest", "prime", "divisor", "sign"]) (sc := defScope s_signed_divisors) (by decide +kernel)) (fun _ _ _ _ _ => (pg_tup rfl (pgs_cons (pg_name (i := 4) sc_signed_divisors.nd rfl (Or.inl rfl)) (pgs_cons (pg_name (i := 5) sc_signed_divisors.nd rfl (Or.inl rfl)) pgs_nil)))) (fun _ _ _ _ _ => pts_nil) (fun _ _ _ _ _ => (pe_tup (pa_cons (pe_op op_fdivW (pv 4) (pv 3)) (pa_cons (pe_un un_neg (pv 5)) pa_nil))))))))
        pss_nil)
      (pss_cons (ps_while PassesOwn.never (pt_cmpR op_eq (pe_op op_mod (pv 2) (pv 3)) pe_int (nomark _))
        (pss_one (ps_set (i := 2) sc_signed_divisors.nd rfl (.inl rfl) (pe_op op_fdivW (pv 2) (pv 3)))))
      (pss_one (ps_aug (i := 3) sc_signed_divisors.nd rfl (.inr rfl) pe_int ip_add))))))
    (pss_one (ps_ret (pv 1))))))), ?_⟩
    refine q_asgLU1 (eu_tup (ea_cons (ev_var rfl) (ea_cons ev_c ea_nil)) (by show 2 ≤ 100000; decide)) fun l0 t0 H1 hl0 e1 gl0 gt0 => ?_
    refine q_asg (v := .int (n : Int)) (ev_var rfl) fun H2 e2 => ?_
    refine q_asg (v := .int (2 : Nat)) ev_c fun H3 e3 => ?_
    have G0 : PrL H3 l0 [(n, 1)] := ⟨[t0], (e2.trans e3) _ _ gl0, rfl, fun i q x hq hx => by
      match i, hq, hx with
      | 0, hq, hx =>
        cases hq
        cases hx
        exact (e2.trans e3) _ _ gt0⟩
    refine q_while (fun m σ' H' => ∃ (l : Addr) (f : List (Nat × Int)) (r p : Nat) (y4 y5 : Option V), σ' = [some (.int (n : Int)), some (.ref l), some (.int (r : Int)), some (.int (p : Int)), y4, y5] ∧ Ex H H' ∧ H l = none ∧ PrL H' l f ∧ 1 ≤ r ∧ r ≤ 300 ∧ 2 ≤ p ∧ p ≤ 301 ∧ (r ≤ 1 ∨ 302 ≤ m + p) ∧ f.length * r ≤ 300 ∧ sdGo m f r p = sd n) 300 ⟨l0, [(n, 1)], n, 2, _, _, rfl, e1.trans (e2.trans e3), hl0, G0, n0, n1, by decide, by decide, .inr (by decide), by simpa using n1, rfl⟩ ?_
    rintro m σ' H4 ⟨l, f, r, p, y4, y5, rfl, e4, hl, G, r0, r1, p0, p1, mp, fl, go⟩
    refine ⟨decide (1 < r), et_is (et_test (ev_op (ev_var rfl) ev_c rv_I0)) (by show decide ((r : Int) > 1) = _; exact decide_eq_decide.mpr (by omega)), fun hb H5 e5 => ?_, fun hb H5 e5 => ?_⟩
    · have hr := of_decide_eq_true hb
      obtain ⟨m, rfl⟩ : ∃ k, m = k + 1 := ⟨m - 1, by omega⟩
      have go' : sdGo m (sdS f r (sdQ r p)) (strip 300 r (sdQ r p)) (sdQ r p + 1) = sd n := by
        rw [← go]
        exact (if_neg (show ¬ r ≤ 1 by omega)).symm
      have q2 : 2 ≤ sdQ r p := by
        unfold sdQ
        split <;> omega
      have q3 : sdQ r p ≤ 300 := by
        unfold sdQ
        split
        · omega
        · rename_i c
          have := Nat.mul_le_mul_right p (show 1 ≤ p by omega)
          omega
      have qm : strip 300 r (sdQ r p) ≤ 1 ∨ p ≤ sdQ r p := by
        unfold sdQ
        split
        · left
          rw [strip_self (k := 299) (by omega)]
          decide
        · right
          exact Nat.le_refl _
      have qe : sdQ r p = (if r < p * p then r else p) := rfl
      generalize hQ : sdQ r p = q at *
      refine ⟨fun σ' H' => ∃ m', m' < m + 1 ∧ ∃ (l : Addr) (f : List (Nat × Int)) (r p : Nat) (y4 y5 : Option V), σ' = [some (.int (n : Int)), some (.ref l), some (.int (r : Int)), some (.int (p : Int)), y4, y5] ∧ Ex H H' ∧ H l = none ∧ PrL H' l f ∧ 1 ≤ r ∧ r ≤ 300 ∧ 2 ≤ p ∧ p ≤ 301 ∧ (r ≤ 1 ∨ 302 ≤ m' + p) ∧ f.length * r ≤ 300 ∧ sdGo m' f r p = sd n, fun _ _ h => h, ?_⟩
      refine q_ifAsg (v := .int (q : Int)) (b := decide (r < p * p)) (et_is (et_test (ev_op (ev_op (ev_var rfl) (ev_var rfl) (rv_I (cml (by omega)))) (ev_var rfl) rv_I0)) (by show decide (((p : Int) * (p : Int)) > (r : Int)) = _; exact decide_eq_decide.mpr (by rw [← Int.natCast_mul]; omega))) (fun hb => ?_) (fun hb => ?_) fun H6 e6 => ?_
      · rw [qe, if_pos (of_decide_eq_true hb)]
        exact ev_var rfl
      · rw [qe, if_neg (of_decide_eq_false hb)]
        rfl
      have e46 := e5.trans e6
      refine q_cut (M := fun σ' H' => ∃ (l : Addr) (y4 y5 : Option V), σ' = [some (.int (n : Int)), some (.ref l), some (.int (r : Int)), some (.int (q : Int)), y4, y5] ∧ Ex H H' ∧ H l = none ∧ PrL H' l (sdS f r q)) ?_ ?_
      · refine s_when (b := decide (r % q = 0)) (et_is (et_test (ev_op (ev_op (ev_var rfl) (ev_var rfl) (rv_I (by omega))) ev_c (rv_eq rfl))) ?_) (fun hb H7 e7 => ?_) (fun hb H7 e7 => ?_)
        · exact decide_eq_decide.mpr ⟨fun h => by injection h; omega, fun h => congrArg V.int (by omega)⟩
        · have hd := of_decide_eq_true hb
          have G7 := G.ex (e46.trans e7)
          refine s_catPr (K := K) (g := f.map (sdF q)) (ev_var rfl) G7 ?_ (fun H8 e8 Q k => pr_lc (sdF q) (ev_var rfl) G7 ?_ (fun _ _ => rfl) ?_ H8 e8 Q k) fun m' H8 hm e8 G8 => ?_
          · rw [List.length_map]
            have := Nat.le_mul_of_pos_right f.length (show 0 < r by omega)
            omega
          · have := Nat.le_mul_of_pos_right f.length (show 0 < r by omega)
            omega
          · rintro ⟨d, s⟩ H9 e9 _
            exact eu_tup (ea_cons (ev_op (ev_var rfl) (ev_var rfl) (rv_I (cdw _ (by omega) (by omega)))) (ea_cons (ev_un (ev_var rfl) ru_neg) ea_nil)) (by show 2 ≤ 100000; decide)
          · refine ⟨m', _, _, rfl, e4.trans ((e46.trans e7).trans e8), fresh_back (e4.trans (e46.trans e7)) hm, ?_⟩
            unfold sdS
            rw [if_pos hd]
            exact G8
        · refine ⟨l, _, _, rfl, e4.trans (e46.trans e7), hl, ?_⟩
          unfold sdS
          rw [if_neg (of_decide_eq_false hb)]
          exact G.ex (e46.trans e7)
      rintro σ' H7 ⟨l', y4', y5', rfl, e7, hl', G'⟩
      refine q_while (fun k σ' H' => ∃ r' : Nat, σ' = [some (.int (n : Int)), some (.ref l'), some (.int (r' : Int)), some (.int (q : Int)), y4', y5'] ∧ Ex H7 H' ∧ 1 ≤ r' ∧ r' ≤ k ∧ strip k r' q = strip 300 r q) 300 ⟨r, rfl, Ex.refl _, r0, r1, rfl⟩ ?_
      rintro k σ' H8 ⟨r', rfl, e8, r0', r1', st⟩
      obtain ⟨k, rfl⟩ : ∃ j, k = j + 1 := ⟨k - 1, by omega⟩
      refine ⟨decide (r' % q = 0), et_is (et_test (ev_op (ev_op (ev_var rfl) (ev_var rfl) (rv_I (by omega))) ev_c (rv_eq rfl))) (decide_eq_decide.mpr ⟨fun h => by injection h; omega, fun h => congrArg V.int (by omega)⟩), fun hb H9 e9 => ?_, fun hb H9 e9 => ?_⟩
      · have hd := of_decide_eq_true hb
        refine ⟨fun σ' H' => ∃ m', m' < k + 1 ∧ ∃ r' : Nat, σ' = [some (.int (n : Int)), some (.ref l'), some (.int (r' : Int)), some (.int (q : Int)), y4', y5'] ∧ Ex H7 H' ∧ 1 ≤ r' ∧ r' ≤ m' ∧ strip m' r' q = strip 300 r q, fun _ _ h => h, ?_⟩
        refine s_asg (v := .int ((r' / q : Nat) : Int)) (ev_op (ev_var rfl) (ev_var rfl) (rv_I (cdw _ (by omega) (by omega)))) fun H10 e10 => ⟨k, Nat.lt_succ_self k, r' / q, rfl, e8.trans (e9.trans e10), ?_, ?_, ?_⟩
        · exact (Nat.le_div_iff_mul_le (by omega)).mpr (by
            rw [Nat.one_mul]
            exact Nat.le_of_dvd (by omega) (Nat.dvd_of_mod_eq_zero hd))
        · have := Nat.div_le_div_left (c := 2) (a := r') q2 (by decide)
          omega
        · rw [← st]
          exact (if_pos hd).symm
      · have hd := of_decide_eq_false hb
        have sr : r' = strip 300 r q := by
          rw [← st]
          exact (if_neg hd).symm
        refine s_aug rfl ev_c fun H10 e10 => ⟨m, Nat.lt_succ_self m, l', _, r', q + 1, _, _, rfl, e7.trans (e8.trans (e9.trans e10)), hl', G'.ex (e8.trans (e9.trans e10)), r0', by have := (strip_ok (k := 300) q2 r0).2; omega, by omega, by omega, ?_, ?_, ?_⟩
        · rw [sr]
          omega
        · rw [sr]
          unfold sdS
          split
          · rename_i c
            have a : strip 300 r q ≤ r / 2 := strip_half (k := 299) q2 r0 c
            rw [List.length_append, List.length_map, ← Nat.two_mul, Nat.mul_assoc, Nat.mul_left_comm]
            exact Nat.le_trans (Nat.mul_le_mul_left _ (show 2 * strip 300 r q ≤ r by omega)) fl
          · exact Nat.le_trans (Nat.mul_le_mul_left _ (strip_ok q2 r0).2) fl
        · rw [sr]
          exact go'
    · have hr := of_decide_eq_false hb
      exact s_ret (ev_var rfl) fun H6 e6 => q l H6 hl (e4.trans (e5.trans e6)) (by
        have := sdGo_end (m := m) (f := f) (p := p) (show r ≤ 1 by omega)
        rw [go] at this
        rw [this]
        exact G.ex (e5.trans e6))
/-! ### _weights -/
def sp_weights (K : PySem.W.Frag) : Sp := fun vs H Q _ => ∃ (l : Addr) (as : List Addr) (ps : List (Int × Int)), vs = [.ref l] ∧ H l = some (.lst (as.map V.ref)) ∧ as.length = ps.length ∧ ps.length ≤ 12 ∧ (∀ (i : Nat) a p, as[i]? = some a → ps[i]? = some p → H a = some (.tup [.int p.1, .int p.2])) ∧ (∀ p ∈ ps, 0 < p.2) ∧ ∀ kvs, Pos kvs → RetDk kvs H Q
theorem ok_weights (T : Txt K mg) : FnG PP w K mg base CX0 1 T.a_weights T.d_weights ["pairs"] (sp_weights K) := by
  refine okG T.F_weights sc_weights (fun vs H Q E h => ?_) (fun cdv A out s H vs Q E hr h => ?_)
  · obtain ⟨l, as, ps, rfl, g, la, lp, f, pp, q⟩ := h
    rfl
  · obtain ⟨l, as, ps, rfl, g, la, lp, f, pp, q⟩ := h
    refine ⟨_, (pss_cons (ps_set (i := 1) sc_weights.nd rfl (.inl rfl) pe_dnewK)
    (pss_cons (ps_for PassesOwn.never rfl (pi_listK (K := K) rfl (pv 0)) (pg_tup rfl (pgs_cons (pg_name (i := 2) sc_weights.nd rfl (.inl rfl)) (pgs_cons (pg_name (i := 3) sc_weights.nd rfl (.inl rfl)) pgs_nil)))
      (pss_one (ps_if (pt_cmpR op_ge (pv 2) pe_int (nomark _))
        (pss_one (ps_dput (hu_of hr.rm) (pv 1) (pv 2) (pe_op op_add (pe_dget2 (hu_of hr.rm) (pv 1) (pv 2) pe_int ⟨rfl, rfl, rfl, rfl⟩) (pv 3)) rfl))
        pss_nil)))
    (pss_one (ps_ret (pv 1))))), ?_⟩
    refine q_asgDk dk_new fun pc H1 f1 e1 g1 => ?_
    refine q_forP2 (ev_var rfl) (sq_of (e1 _ _ g)) (fun i σ' H' => ∃ (kvs : List (Key × V)) (y2 y3 : Option V), σ' = [some (.ref l), some (.ref pc), y2, y3] ∧ Ex H H' ∧ H' pc = some (.dK kvs) ∧ kvs.length ≤ i ∧ ∀ e ∈ kvs, ∃ k c : Int, e = (.inl k, .int c) ∧ 0 < c) ?_ ?_ ?_ ?_
    · intro H2 e2
      exact ⟨[], _, _, rfl, e1.trans e2, e2 _ _ g1, Nat.le_refl _, fun _ h => nomatch h⟩
    · rintro i σ' H' _ ⟨kvs, y2, y3, rfl, e, gp, lk, pk⟩
      exact sq_of (e _ _ g)
    · rintro i v σ' H' hv ⟨kvs, y2, y3, rfl, e, gp, lk, pk⟩
      obtain ⟨a, ha, rfl⟩ := map_at hv
      have hi := (List.getElem?_eq_some_iff.mp ha).1
      have hp : ps[i]? = some (ps[i]'(by omega)) := List.getElem?_eq_getElem _
      have ga := e _ _ (f i a _ ha hp)
      have pos := pp _ (List.getElem_mem (show i < ps.length by omega))
      generalize ps[i]'(by omega) = p at hp ga pos
      obtain ⟨b, c⟩ := p
      refine ⟨a, _, _, rfl, st_of ga, ?_⟩
      by_cases c2 : 2 ≤ b
      · refine s_if (b := true) (et_test (ev_op (ev_var rfl) ev_c (rv_b (decide_eq_true (by omega))))) (fun _ H2 e2 => ?_) (fun h => nomatch h)
        have gp2 := e2 _ _ gp
        obtain ⟨o, ho, o0⟩ : ∃ o : Int, (valV kvs (.inl b)).getD (.int 0) = .int o ∧ 0 ≤ o := by
          cases gv : valV kvs (.inl b) with
          | none => exact ⟨0, rfl, Int.le_refl _⟩
          | some v =>
            obtain ⟨k, c', e', p'⟩ := pk _ (valV_mem gv)
            injection e' with _ e'
            exact ⟨c', e', by omega⟩
        refine s_dput (k := .inl b) (v := .int (o + c)) gp2 (ev_op (ev_is (ev_get2 (k := .inl b) (x := .int 0) (ev_var rfl) gp2 (ev_var rfl) ev_c) ho) (ev_var rfl) rv_I0) (ev_var rfl) (ev_var rfl) (by omega) fun H3 e3 => ?_
        refine ⟨_, _, _, rfl, ((e.trans e2).trans e3).mut f1, upd_same, by have := length_putK kvs (.inl b) (.int (o + c)); omega, fun e' he => ?_⟩
        rcases putK_mem he with rfl | ⟨m, _⟩
        · exact ⟨b, _, rfl, by have : 0 < c := pos; omega⟩
        · exact pk e' m
      · refine s_if (b := false) (et_test (ev_op (ev_var rfl) ev_c (rv_b (decide_eq_false (by omega))))) (fun h => nomatch h) (fun _ H2 e2 => ?_)
        exact ⟨kvs, _, _, rfl, e.trans e2, e2 _ _ gp, by omega, pk⟩
    · rintro σ' H' ⟨kvs, y2, y3, rfl, e, gp, lk, pk⟩
      rw [List.length_map] at lk
      exact s_ret (ev_var rfl) fun H2 e2 => q kvs ⟨by omega, pk⟩ pc H2 f1 (e.trans e2) (e2 _ _ gp)
/-! ### _next_doubt -/
def sp_next_doubt (K : PySem.W.Frag) : Sp := fun vs H Q _ => ∃ (d : Addr) (s : Int) (kvs : List (Key × V)), vs = [.ref d, .int s] ∧ H d = some (.dK kvs) ∧ Pos kvs ∧ RetV .non H Q
theorem v_next_doubt {K : PySem.W.Frag} {H : Hp} {d : Addr} {s : Int} {kvs : List (Key × V)} (g : H d = some (.dK kvs)) (p : Pos kvs) : SpV (sp_next_doubt K) [.ref d, .int s] H .non := fun H1 e Q q E => ⟨d, s, kvs, rfl, e _ _ g, p, q⟩
theorem ok_next_doubt (T : Txt K mg) : FnG PP w K mg base CX0 1 T.a_next_doubt T.d_next_doubt ["weights", "start"] (sp_next_doubt K) := by
  refine okG T.F_next_doubt sc_next_doubt (fun vs H Q E h => ?_) (fun cdv A out s H vs Q E hr h => ?_)
  · obtain ⟨d, s, kvs, rfl, g, ⟨lk, pk⟩, q⟩ := h
    rfl
  · obtain ⟨d, s, kvs, rfl, g, ⟨lk, pk⟩, q⟩ := h
    refine ⟨_, (pss_cons (ps_lock (ps_setLc (i := 2) (own := [("base", 9), ("weight", 10)]) (g := g2 K 9 10) rfl sc_next_doubt.nd rfl rfl (sw_true rfl rfl rfl (by decide +kernel)) (pi_items (pv 0)) (blkOk_by (own := [("base", 9), ("weight", 10)]) (N := ["weights", "start", "gains", "losses", "most", "m", "leap", "spare", "fall", "base", "weight", "number"]) (sc := defScope s_next_doubt) (by decide +kernel)) (fun _ _ _ _ _ => (pg_tup rfl (pgs_cons (pg_name (i := 9) sc_next_doubt.nd rfl (Or.inl rfl)) (pgs_cons (pg_name (i := 10) sc_next_doubt.nd rfl (Or.inl rfl)) pgs_nil)))) (fun _ _ _ _ _ => (pts_one (pt_cmpR op_gt (pv 10) pe_int (nomark _)))) (fun _ _ _ _ _ => (pe_tup (pa_cons (pv 9) (pa_cons (pv 10) pa_nil))))))
    (pss_cons (ps_lock (ps_setLc (i := 3) (own := [("base", 9), ("weight", 10)]) (g := g2 K 9 10) rfl sc_next_doubt.nd rfl rfl (sw_true rfl rfl rfl (by decide +kernel)) (pi_items (pv 0)) (blkOk_by (own := [("base", 9), ("weight", 10)]) (N := ["weights", "start", "gains", "losses", "most", "m", "leap", "spare", "fall", "base", "weight", "number"]) (sc := defScope s_next_doubt) (by decide +kernel)) (fun _ _ _ _ _ => (pg_tup rfl (pgs_cons (pg_name (i := 9) sc_next_doubt.nd rfl (Or.inl rfl)) (pgs_cons (pg_name (i := 10) sc_next_doubt.nd rfl (Or.inl rfl)) pgs_nil)))) (fun _ _ _ _ _ => (pts_one (pt_cmpR op_lt (pv 10) pe_int (nomark _)))) (fun _ _ _ _ _ => (pe_tup (pa_cons (pv 9) (pa_cons (pe_un un_neg (pv 10)) pa_nil))))))
    (pss_cons (ps_if (pt_cmpR op_eq (pe_callB (call_lenK (K := K) rfl) (by rfl) T.z_len bt_len (pa_cons (pv 3) pa_nil)) pe_int (nomark _))
      (pss_one (ps_ret pe_non))
      pss_nil)
    (pss_cons ps_never
    (pss_cons ps_never
    (pss_cons ps_never
    (pss_one ps_never))))))), ?_⟩
    refine q_lcAny (us := fun e => [kV e.1, e.2]) rfl g (by omega) (fun _ _ => rfl) (fun e H1 he => ?_) (fun e H1 he => ?_) fun pg H1 e1 => ?_
    · obtain ⟨k, c, rfl, c0⟩ := pk e he
      exact et_test (ev_op (ev_var rfl) ev_c (rv_b (decide_eq_true c0)))
    · obtain ⟨k, c, rfl, c0⟩ := pk e he
      exact eu_tup (ea_cons (ev_var rfl) (ea_cons (ev_var rfl) ea_nil)) (by show 2 ≤ 100000; decide)
    refine q_asgLk (xs := []) (el_is (el_lcIt (fun _ => false) (fun _ => .non) rfl (e1 _ _ g) (by omega) (fun _ _ => rfl) (fun n e H2 he => ?_) (fun _ _ _ _ h => nomatch h)) (given_none _ _)) fun pl H2 f2 e2 g2 => ?_
    · obtain ⟨k, c, rfl, c0⟩ := pk e (List.mem_of_getElem? he)
      exact et_test (ev_op (ev_var rfl) ev_c (rv_b (decide_eq_false (by omega))))
    refine q_when (b := true) (et_is (et_test (ev_op (ev_len (ev_var rfl) (sq_of g2)) ev_c (rv_eq rfl))) rfl) (fun _ H3 e3 => s_ret (v := .non) ev_c fun H4 e4 => q H4 ((e1.trans e2).trans (e3.trans e4))) (fun h => nomatch h)
/-! ### _counts_of -/
def sp_counts_of (K : PySem.W.Frag) : Sp := fun vs H Q _ => ∃ (r : Addr) (ts : List Tm) (w : Nat), vs = [.ref r, .str (kn w)] ∧ Rul H r ts ∧ (∀ t ∈ ts, TmOk t) ∧ w < 3 ∧ ts.length ≤ 12 ∧ RetDb ts w H Q
theorem ok_counts_of (T : Txt K mg) : FnG PP w K mg base CX0 1 T.a_counts_of T.d_counts_of ["rule", "kind"] (sp_counts_of K) := by
  refine okG T.F_counts_of sc_counts_of (fun vs H Q E h => ?_) (fun cdv A out s H vs Q E hr h => ?_)
  · obtain ⟨r, ts, w, rfl, hR, ok, hw, hl, q⟩ := h
    rfl
  · obtain ⟨r, ts, w, rfl, hR, ok, hw, hl, q⟩ := h
    refine ⟨_, (pss_cons (ps_set (i := 2) sc_counts_of.nd rfl (.inl rfl) pe_dnewK)
    (pss_cons (ps_for PassesOwn.never rfl (pi_listK (K := K) rfl (pv 0)) (pg_tup rfl (pgs_cons (pg_name (i := 3) sc_counts_of.nd rfl (.inl rfl)) (pgs_cons (pg_name (i := 4) sc_counts_of.nd rfl (.inl rfl)) (pgs_cons (pg_name (i := 5) sc_counts_of.nd rfl (.inl rfl)) pgs_nil))))
      (pss_one (ps_if (pt_cmpR op_eq (pv 3) (pv 1) (nomark _))
        (pss_one (ps_dput (hu_of hr.rm) (pv 2) (pv 5) (pe_op op_add (pe_dget2 (hu_of hr.rm) (pv 2) (pv 5) pe_int ⟨rfl, rfl, rfl, rfl⟩) (pv 4)) rfl))
        pss_nil)))
    (pss_one (ps_ret (pe_lock (pe_dc (own := [("size", 5), ("count", 4)]) (g := g2 K 5 4) rfl sc_counts_of.nd (pi_items (pv 2)) (blkOk_by (own := [("size", 5), ("count", 4)]) (N := ["rule", "kind", "counts", "name", "count", "size"]) (sc := defScope s_counts_of) (by decide +kernel)) (fun _ _ _ _ _ => (pg_tup rfl (pgs_cons (pg_name (i := 5) sc_counts_of.nd rfl (Or.inl rfl)) (pgs_cons (pg_name (i := 4) sc_counts_of.nd rfl (Or.inl rfl)) pgs_nil)))) (fun _ _ _ _ _ => (pts_one (pt_cmpR op_ne (pv 4) pe_int (nomark _)))) (fun _ _ _ _ _ => (pv 5)) (fun _ _ _ _ _ => (pv 4)))))))), ?_⟩
    obtain ⟨as, g, la, f⟩ := id hR
    refine q_asgDk dk_new fun pc H1 f1 e1 g1 => ?_
    refine q_for3 (ev_var rfl) (sq_of (e1 _ _ g)) (fun i σ' H' => ∃ (kvs : List (Key × V)) (y3 y4 y5 : Option V), σ' = [some (.ref r), some (.str (kn w)), some (.ref pc), y3, y4, y5] ∧ Ex H H' ∧ H' pc = some (.dK kvs) ∧ CI kvs (smO (ts.take i) w) ∧ kvs.length ≤ i) ?_ ?_ ?_ ?_
    · intro H2 e2
      exact ⟨[], _, _, _, rfl, e1.trans e2, e2 _ _ g1, ⟨List.nodup_nil, (fun _ h => nomatch h), fun k _ => rfl⟩, Nat.le_refl _⟩
    · rintro i σ' H' _ ⟨kvs, y3, y4, y5, rfl, e, gp, ci, lk⟩
      exact sq_of (e _ _ g)
    · rintro i v σ' H' hv ⟨kvs, y3, y4, y5, rfl, e, gp, ci, lk⟩
      rw [List.getElem?_map] at hv
      cases hg : as[i]? with
      | none =>
        rw [hg] at hv
        cases hv
      | some a =>
        rw [hg] at hv
        cases hv
        have hi := (List.getElem?_eq_some_iff.mp hg).1
        have ht : ts[i]? = some (ts[i]'(by omega)) := List.getElem?_eq_getElem _
        have ga := e _ _ (f i a _ hg ht)
        have okt := ok _ (List.getElem_mem (show i < ts.length by omega))
        have tk : ts.take (i + 1) = ts.take i ++ [ts[i]'(by omega)] := by rw [List.take_succ, ht]; rfl
        generalize ts[i]'(by omega) = t at ht ga okt tk
        refine ⟨a, _, _, _, rfl, st_of ga, ?_⟩
        by_cases c : t.w = w
        · refine s_if (b := true) (et_is (et_test (ev_op (ev_var rfl) (ev_var rfl) rv_eqS)) (by rw [c]; simp)) (fun _ H2 e2 => ?_) (fun h => nomatch h)
          have gp2 := e2 _ _ gp
          refine s_dput (k := .inl t.z) (v := .int (smO (ts.take i) w t.z + t.c)) gp2 (ev_op (ev_is (ev_get2 (k := .inl t.z) (x := .int 0) (ev_var rfl) gp2 (ev_var rfl) ev_c) (ci.get t.z)) (ev_var rfl) rv_I0) (ev_var rfl) (ev_var rfl) (by omega) fun H3 e3 => ?_
          refine ⟨_, _, _, _, rfl, ((e.trans e2).trans e3).mut f1, upd_same, ci.put ?_ fun k hk => ?_, by have := length_putK kvs (.inl t.z) (.int (smO (ts.take i) w t.z + t.c)); omega⟩
          · rw [tk, smO_snoc, if_pos ⟨c, rfl⟩]
          · rw [tk, smO_snoc, if_neg fun z => hk z.2.symm, Int.add_zero]
        · refine s_if (b := false) (et_is (et_test (ev_op (ev_var rfl) (ev_var rfl) rv_eqS)) (decide_eq_false fun z => c (knE okt.w2 hw z))) (fun h => nomatch h) (fun _ H2 e2 => ?_)
          refine ⟨kvs, _, _, _, rfl, e.trans e2, e2 _ _ gp, ?_, by omega⟩
          have : smO (ts.take (i + 1)) w = smO (ts.take i) w := by
            funext k
            rw [tk, smO_snoc, if_neg fun z => c z.1, Int.add_zero]
          rw [this]
          exact ci
    · rintro σ' H' ⟨kvs, y3, y4, y5, rfl, e, gp, ci, lk⟩
      rw [List.length_map, la] at ci lk
      rw [List.take_length] at ci
      refine s_retDk (dk_dcIt (fun e => !decide (e.2 = .int 0)) rfl gp ci.1 (by omega) (fun _ _ => rfl) (fun e1 H1 he => by
        obtain ⟨k, rfl⟩ := ci.2.1 e1 he
        exact et_test (ev_op (ev_var rfl) ev_c (rv_ne rfl))) (fun _ _ => ev_var rfl) (fun _ _ => ev_var rfl)) fun p H2 hp e2 g2 => q _ ci.dict ?_ p H2 (fresh_back e hp) (e.trans e2) g2
      have := List.length_filter_le (fun e : Key × V => !decide (e.2 = .int 0)) kvs
      omega
/-! ### _powers -/
def sp_powers (K : PySem.W.Frag) : Sp := fun vs H Q _ => ∃ (c z : Int) (n : Nat), vs = [.int c, .int z, .int (n : Int)] ∧ -40 ≤ z ∧ z ≤ 40 ∧ n ≤ 4000 ∧ RetL (vi (tuv ⟨0, c, z⟩ n)) H Q
theorem l_powers {K : PySem.W.Frag} {H : Hp} {c z : Int} {n : Nat} (h0 : -40 ≤ z) (h1 : z ≤ 40) (hn : n ≤ 4000) : SpL (sp_powers K) [.int c, .int z, .int (n : Int)] H (vi (tuv ⟨0, c, z⟩ n)) := fun H1 e Q q E => ⟨c, z, n, rfl, h0, h1, hn, q⟩
theorem ok_powers (T : Txt K mg) : FnG PP w K mg base CX0 1 T.a_powers T.d_powers ["count", "base", "many"] (sp_powers K) := by
  refine okG T.F_powers sc_powers (fun vs H Q E h => ?_) (fun cdv A out s H vs Q E hr h => ?_)
  · obtain ⟨c, z, n, rfl, z0, z1, hn, q⟩ := h
    rfl
  · obtain ⟨c, z, n, rfl, z0, z1, hn, q⟩ := h
    refine ⟨_, (pss_cons (ps_set (i := 3) sc_powers.nd rfl (.inl rfl) (pe_lst pa_nil))
    (pss_cons (ps_set (i := 4) sc_powers.nd rfl (.inl rfl) (pv 0))
    (pss_cons (ps_for PassesOwn.never rfl (pi_range1 (by rfl) T.z_range (pa_cons (pv 2) pa_nil)) (pg_name (i := 5) sc_powers.nd rfl (.inl rfl))
      (pss_cons (ps_set (i := 4) sc_powers.nd rfl (.inl rfl) (pe_op op_mul (pv 4) (pv 1)))
      (pss_one (ps_expr (pe_bm PySem.F.plainAttrs_list PySem.F.slot_list_append PySem.F.type_list_append mt_append (pv 3) (pa_cons (pv 4) pa_nil))))))
    (pss_one (ps_ret (pv 3)))))), ?_⟩
    refine q_asgL (el_lst ea_nil (Nat.zero_le _)) fun p H1 f1 e1 g1 => ?_
    refine q_asg (v := .int (c * z ^ 0)) (ev_is (ev_var rfl) (by rw [Int.pow_zero, Int.mul_one])) fun H2 e2 => ?_
    refine q_forR1 (n := (n : Int)) (ea_cons (ev_var rfl) ea_nil) (by omega) (fun i σ' H' => ∃ y5, σ' = [some (.int c), some (.int z), some (.int (n : Int)), some (.ref p), some (.int (c * z ^ i)), y5] ∧ Ex H H' ∧ H' p = some (.lst (vi (tuv ⟨0, c, z⟩ i)))) ?_ ?_ ?_
    · intro H3 e3
      exact ⟨_, rfl, (e1.trans e2).trans e3, (e2.trans e3) _ _ g1⟩
    · rintro i σ' H' hi ⟨y5, rfl, e, g⟩
      have hi' : i < n := by omega
      refine q_asg (v := .int (c * z ^ (i + 1))) (ev_is (ev_op (ev_var rfl) (ev_var rfl) (rv_I (.inr (by omega)))) (by rw [Int.pow_succ, Int.mul_assoc])) fun H3 e3 => ?_
      refine s_app (e3 _ _ g) (ev_var rfl) (ev_var rfl) (by rw [List.length_map]; unfold tuv; rw [tab_length]; omega) fun H4 e4 => ?_
      refine ⟨_, rfl, ((e.trans e3).trans e4).mut f1, ?_⟩
      rw [upd_same]
      unfold tuv tabL
      rw [List.range_succ, List.map_append, ← vi_app]
      rfl
    · rintro σ' H' ⟨y5, rfl, e, g⟩
      exact s_ret (ev_var rfl) fun H3 e3 => q p H3 f1 (e.trans e3) (e3 _ _ g)
/-! ### _law_pot -/
def sp_law_pot (K : PySem.W.Frag) : Sp := fun vs H Q _ => ∃ (a : Addr) (ns : List Int) (k : Int), vs = [.ref a, .int k] ∧ SqL K H a (vi ns) ∧ 0 ≤ k ∧ k ≤ 63 ∧ ∀ p H2, H p = none → Ex H H2 → Well H2 p 0 → Q (.ref p) H2
theorem ok_law_pot (T : Txt K mg) : FnG PP w K mg base CX0 1 T.a_law_pot T.d_law_pot ["script", "k"] (sp_law_pot K) := by
  refine okG T.F_law_pot sc_law_pot (fun vs H Q E h => ?_) (fun cdv A out s H vs Q E hr h => ?_)
  · obtain ⟨a, ns, k, rfl, hS, h0, h1, q⟩ := h
    rfl
  · obtain ⟨a, ns, k, rfl, hS, h0, h1, q⟩ := h
    refine ⟨_, (pss_cons (ps_set (i := 2) sc_law_pot.nd rfl (.inl rfl) pe_int)
    (pss_cons (ps_if (pt_cmpR op_lt (pv 1) (pe_callB (call_lenK (K := K) rfl) (by rfl) T.z_len bt_len (pa_cons (pv 0) pa_nil)) (nomark _))
      (pss_one (ps_set (i := 2) sc_law_pot.nd rfl (.inl rfl) (pe_callB call_abs (by rfl) T.z_abs bt_abs (pa_cons (pe_callTy call_int1 (by rfl) T.z_int bt_int (pa_cons (pe_ix (ix_listK (K := K) rfl) (pv 0) (pv 1) (fun _ _ => rfl)) pa_nil)) pa_nil))))
      pss_nil)
    (pss_one (ps_ret (pe_lst (pa_cons (pe_callB (call_max2 rfl) (by rfl) T.z_max bt_max (pa_cons pe_int (pa_cons (pe_op op_sub (pv 2) (pe_op op_powW pe_int pe_int)) pa_nil))) (pa_cons (pe_op op_add (pe_op op_mod (pe_callTy call_int1 (by rfl) T.z_int bt_int (pa_cons (pv 2) pa_nil)) (pe_op op_add (pe_op op_powW pe_int pe_int) pe_int)) (pe_op op_mul pe_int (pv 1))) (pa_cons pe_int pa_nil)))))))), ?_⟩
    refine q_asg ev_c fun H0 e0 => ?_
    refine q_when (b := decide (k < (ns.length : Int))) (et_test (ev_op (ev_var rfl) (ev_is (ev_len (ev_var rfl) (ex_l e0 hS)) (by rw [List.length_map])) (rv_b rfl))) (fun hb H1 e1' => ?_) (fun hb H1 e1' => ?_)
    · have hk := of_decide_eq_true hb
      obtain ⟨j, rfl⟩ : ∃ j : Nat, k = j := ⟨k.toNat, by omega⟩
      have hj : j < ns.length := by omega
      have hx : (vi ns)[j]? = some (.int (ns.getD j 0)) := by
        rw [vi_at hj, List.getD_eq_getElem?_getD, List.getElem?_eq_getElem hj]
        rfl
      refine s_asg (ev_abs (ev_int1 (ev_op (ev_var rfl) (ev_var rfl) (rv_ixL (ex_l (e0.trans e1') hS) (atI_nat hx))))) fun H3 e3 => ?_
      have e1 := (e0.trans e1').trans e3
      generalize (if ns.getD j 0 < 0 then -ns.getD j 0 else ns.getD j 0) = cell
      refine s_retL (xs := [_, _, _]) (el_lst (ea_cons (ev_max2 ev_c (ev_op (ev_var rfl) (ev_op ev_c ev_c (rv_I (cpw (by decide) (by decide) (by decide)))) rv_I0)) (ea_cons (ev_op (ev_op (ev_int1 (ev_var rfl)) (ev_op (ev_op ev_c ev_c (rv_I (cpw (by decide) (by decide) (by decide)))) ev_c rv_I0) (rv_I (by have := p10_pos (Int.toNat 33); omega))) (ev_op ev_c (ev_var rfl) (rv_I (cml (by decide)))) rv_I0) (ea_cons ev_c ea_nil))) (by show 3 ≤ 100000; decide)) fun p H2 hp e2 h2 => ?_
      refine q p H2 (fresh_back e1 hp) (e1.trans e2) ⟨_, _, _, h2, ?_, ?_, by decide, by decide⟩
      · have := Int.emod_nonneg cell (show (10 : Int) ^ Int.toNat 33 + 33 ≠ 0 by have := p10_pos (Int.toNat 33); omega)
        omega
      · have := Int.emod_lt_of_pos cell (show (0 : Int) < 10 ^ Int.toNat 33 + 33 by have := p10_pos (Int.toNat 33); omega)
        have e : (10 : Int) ^ Int.toNat 33 = 1000000000000000000000000000000000 := by decide
        omega
    · have e1 := e0.trans e1'
      have ec : (0 : Int) = 0 := rfl
      generalize hcell : (0 : Int) = cell at ec
      clear ec
      subst hcell
      refine s_retL (xs := [_, _, _]) (el_lst (ea_cons (ev_max2 ev_c (ev_op (ev_var rfl) (ev_op ev_c ev_c (rv_I (cpw (by decide) (by decide) (by decide)))) rv_I0)) (ea_cons (ev_op (ev_op (ev_int1 (ev_var rfl)) (ev_op (ev_op ev_c ev_c (rv_I (cpw (by decide) (by decide) (by decide)))) ev_c rv_I0) (rv_I (by have := p10_pos (Int.toNat 33); omega))) (ev_op ev_c (ev_var rfl) (rv_I (cml (by decide)))) rv_I0) (ea_cons ev_c ea_nil))) (by show 3 ≤ 100000; decide)) fun p H2 hp e2 h2 => ?_
      refine q p H2 (fresh_back e1 hp) (e1.trans e2) ⟨_, _, _, h2, ?_, ?_, by decide, by decide⟩
      · have := Int.emod_nonneg 0 (show (10 : Int) ^ Int.toNat 33 + 33 ≠ 0 by have := p10_pos (Int.toNat 33); omega)
        omega
      · have := Int.emod_lt_of_pos 0 (show (0 : Int) < 10 ^ Int.toNat 33 + 33 by have := p10_pos (Int.toNat 33); omega)
        have e : (10 : Int) ^ Int.toNat 33 = 1000000000000000000000000000000000 := by decide
        omega
/-! ### _law_dip -/
abbrev sp_law_dip := sp_dr
theorem ok_law_dip (T : Txt K mg) : FnG PP w K mg base CX0 1 T.a_law_dip T.d_law_dip ["pot", "many"] (sp_law_dip K) := by
  refine okG T.F_law_dip sc_law_dip (fun vs H Q E h => ?_) (fun cdv A out s H vs Q E hr h => ?_)
  · obtain ⟨a, n, m, rfl, ⟨x, y, c, hW, y0, y1, c0, c1⟩, hn, m0, m1, q⟩ := h
    rfl
  · obtain ⟨a, n, m, rfl, ⟨x, y, c, hW, y0, y1, c0, c1⟩, hn, m0, m1, q⟩ := h
    refine ⟨_, (pss_cons (ps_if (pt_cmpR op_gt (pe_ix (ix_listK (K := K) rfl) (pv 0) pe_int (fun _ _ => rfl)) pe_int (nomark _))
      (pss_cons (ps_set (i := 2) sc_law_dip.nd rfl (.inl rfl) (pe_op op_mod (pe_callTy call_int1 (by rfl) T.z_int bt_int (pa_cons (pe_ix (ix_listK (K := K) rfl) (pv 0) pe_int (fun _ _ => rfl)) pa_nil)) (pv 1)))
      (pss_cons (ps_asg (pe_op op_fdivW (pe_ix (ix_listK (K := K) rfl) (pv 0) pe_int (fun _ _ => rfl)) (pv 1)) (pg_sub (pv 0) pe_int set_list))
      (pss_one (ps_ret (pv 2)))))
      pss_nil)
    (pss_cons (ps_asg (pe_op op_add (pe_ix (ix_listK (K := K) rfl) (pv 0) pe_int (fun _ _ => rfl)) pe_int) (pg_sub (pv 0) pe_int set_list))
    (pss_cons (ps_set (i := 3) sc_law_dip.nd rfl (.inl rfl) (pe_op op_mod (pe_callTy call_int1 (by rfl) T.z_int bt_int (pa_cons (pe_op op_powW (pe_op op_add (pe_ix (ix_listK (K := K) rfl) (pv 0) pe_int (fun _ _ => rfl)) (pe_op op_mul pe_int (pe_ix (ix_listK (K := K) rfl) (pv 0) pe_int (fun _ _ => rfl)))) pe_int) pa_nil)) (pe_op op_add (pe_op op_powW pe_int pe_int) pe_int)))
    (pss_cons (ps_set (i := 3) sc_law_dip.nd rfl (.inl rfl) (pe_op op_mod (pe_callTy call_int1 (by rfl) T.z_int bt_int (pa_cons (pe_op op_powW (pe_op op_add (pv 3) (pe_op op_mul pe_int (pe_ix (ix_listK (K := K) rfl) (pv 0) pe_int (fun _ _ => rfl)))) pe_int) pa_nil)) (pe_op op_add (pe_op op_powW pe_int pe_int) pe_int)))
    (pss_one (ps_ret (pe_op op_mod (pe_callTy call_int1 (by rfl) T.z_int bt_int (pa_cons (pe_op op_fdivW (pv 3) (pe_op op_powW pe_int pe_int)) pa_nil)) (pv 1)))))))), ?_⟩
    have hS := sq_of (K := K) hW
    by_cases hx : 0 < x
    · refine q_when (b := true) (et_test (ev_op (ev_op (ev_var rfl) ev_c (rv_ixL hS rfl)) ev_c (rv_b (decide_eq_true hx)))) (fun _ H1 e1 => ?_) (fun h => nomatch h)
      refine q_asg (ev_op (ev_int1 (ev_op (ev_var rfl) ev_c (rv_ixL (ex_l e1 hS) rfl))) (ev_var rfl) (rv_I m0)) fun H2 e2 => ?_
      have hW2 := e2 _ _ (e1 _ _ hW)
      refine q_setL (j := 0) hW2 (ev_op (ev_op (ev_var rfl) ev_c (rv_ixL (sq_of hW2) rfl)) (ev_var rfl) (rv_I (cdw8 _ m0 m1))) (ev_var rfl) ev_c (by show 0 < 3; decide) fun H3 e3 => ?_
      refine s_ret (ev_var rfl) fun H4 e4 => ?_
      refine q _ H4 (((But.ex ((e1.trans e2).trans e3)).trans .at).trans (But.ex e4)) ⟨_, _, _, e4 _ _ upd_same, y0, y1, c0, by omega⟩ (Int.emod_nonneg _ (by omega)) (Int.emod_lt_of_pos _ m0)
    · refine q_when (b := false) (et_test (ev_op (ev_op (ev_var rfl) ev_c (rv_ixL hS rfl)) ev_c (rv_b (decide_eq_false hx)))) (fun h => nomatch h) (fun _ H1 e1 => ?_)
      have hW1 := e1 _ _ hW
      refine q_setL (j := 2) hW1 (ev_op (ev_op (ev_var rfl) ev_c (rv_ixL (sq_of hW1) rfl)) ev_c rv_I0) (ev_var rfl) ev_c (by show 2 < 3; decide) fun H2 e2 => ?_
      have hW2 : upd H2 a (.lst ([.int x, .int y, .int c].set 2 (.int (c + 1)))) a = some (.lst [.int x, .int y, .int (c + 1)]) := upd_same
      have hS2 := sq_of (K := K) hW2
      refine q_asg (ev_op (ev_int1 (ev_op (ev_op (ev_op (ev_var rfl) ev_c (rv_ixL hS2 rfl)) (ev_op ev_c (ev_op (ev_var rfl) ev_c (rv_ixL hS2 rfl)) (rv_I (cml (by decide)))) rv_I0) ev_c (rv_I (cpw (by omega) (by decide) (by decide))))) (ev_op (ev_op ev_c ev_c (rv_I (cpw (by decide) (by decide) (by decide)))) ev_c rv_I0) (rv_I (by have := p10_pos (Int.toNat 41); omega))) fun H3 e3 => ?_
      have hS3 := ex_l e3 hS2
      have b0 := Int.emod_nonneg ((y + 86028121 * (c + 1)) ^ Int.toNat 3) (show (10 : Int) ^ Int.toNat 41 + 9 ≠ 0 by have := p10_pos (Int.toNat 41); omega)
      have b1 := Int.emod_lt_of_pos ((y + 86028121 * (c + 1)) ^ Int.toNat 3) (show (0 : Int) < 10 ^ Int.toNat 41 + 9 by have := p10_pos (Int.toNat 41); omega)
      have e41 : (10 : Int) ^ Int.toNat 41 = 100000000000000000000000000000000000000000 := by decide
      refine q_asg (ev_op (ev_int1 (ev_op (ev_op (ev_var rfl) (ev_op ev_c (ev_op (ev_var rfl) ev_c (rv_ixL hS3 rfl)) (rv_I (cml (by decide)))) rv_I0) ev_c (rv_I (cpw (by omega) (by decide) (by decide))))) (ev_op (ev_op ev_c ev_c (rv_I (cpw (by decide) (by decide) (by decide)))) ev_c rv_I0) (rv_I (by have := p10_pos (Int.toNat 39); omega))) fun H4 e4 => ?_
      refine s_ret (ev_op (ev_int1 (ev_op (ev_var rfl) (ev_op ev_c ev_c (rv_I (cpw (by decide) (by decide) (by decide)))) (rv_I (cdw _ (p10_pos _) (by decide))))) (ev_var rfl) (rv_I m0)) fun H5 e5 => ?_
      refine q _ H5 ((((But.ex (e1.trans e2)).trans .at).trans (But.ex (e3.trans e4))).trans (But.ex e5)) ⟨_, _, _, e5 _ _ (e4 _ _ (e3 _ _ hW2)), y0, y1, by omega, by omega⟩ (Int.emod_nonneg _ (by omega)) (Int.emod_lt_of_pos _ m0)
/-! ### is_from_to -/
def sp_is_from_to (K : PySem.W.Frag) : Sp := fun vs H Q _ => ∃ (x : V) (o : Option Int) (lo hi : Int), vs = [x, .int lo, .int hi] ∧ NV H x o ∧ RetV (.bl (inZ o lo hi)) H Q
theorem v_is_from_toN {K : PySem.W.Frag} {H : Hp} {x : V} {o : Option Int} {lo hi : Int} (h : NV H x o) : SpV (sp_is_from_to K) [x, .int lo, .int hi] H (.bl (inZ o lo hi)) := fun H1 e Q q E => ⟨x, o, lo, hi, rfl, h.ex e, q⟩
theorem v_is_from_to {K : PySem.W.Frag} {H : Hp} {m lo hi : Int} : SpV (sp_is_from_to K) [.int m, .int lo, .int hi] H (.bl (decide (lo ≤ m) && decide (m ≤ hi))) := v_is_from_toN (o := some m) rfl
theorem ok_is_from_to (T : Txt K mg) : FnG PP w K mg base CX0 2 T.a_is_from_to T.d_is_from_to ["value", "least", "most"] (sp_is_from_to K) := by
  refine okG T.F_is_from_to sc_is_from_to (fun vs H Q E h => ?_) (fun cdv A out s H vs Q E hr h => ?_)
  · obtain ⟨x, o, lo, hi, rfl, hx, q⟩ := h
    rfl
  · obtain ⟨x, o, lo, hi, rfl, hx, q⟩ := h
    refine ⟨_, (pss_one (ps_ret (pe_and (callG (ok_is_whole T) (hr.mono (by decide)) (by rfl) T.g_is_whole T.F_is_whole.kp (b_is_whole T) .nil pass0 (pa_cons (pv 0) pa_nil)) (pe_one (pe_chain op_le op_le (pv 1) (pv 0) (pv 2)))))), ?_⟩
    match o, hx with
    | some m, hx =>
      obtain rfl : x = .int m := hx
      exact s_ret (ev_is (ev_andV (a := true) (ev_call (ea_cons (ev_var rfl) ea_nil) (v_is_whole m)) fun _ => ev_chain (ev_var rfl) (ev_var rfl) (rv_b rfl) (fun _ => ev_var rfl) fun _ => rv_b rfl) (by rw [Bool.true_and]; rfl)) q
    | none, hx => exact s_ret (ev_andV (a := false) (b := false) (ev_call (ea_cons (ev_var rfl) ea_nil) (v_odd hx)) (fun h => nomatch h)) q
/-! ### check_row -/
def sp_check_row (K : PySem.W.Frag) : Sp := fun vs H Q _ => ∃ (a : Addr) (ns : List Int), vs = [.ref a] ∧ SqL K H a (vi ns) ∧ 0 < ns.length ∧ ns.length ≤ 4000 ∧ RetV .non H Q
theorem v_check_row {K : PySem.W.Frag} {H : Hp} {a : Addr} {ns : List Int} (h : SqL K H a (vi ns)) (h0 : 0 < ns.length) (h1 : ns.length ≤ 4000) : SpV (sp_check_row K) [.ref a] H .non := fun H1 e Q q E => ⟨a, ns, rfl, ex_l e h, h0, h1, q⟩
theorem ok_check_row (T : Txt K mg) : FnG PP w K mg base CX0 2 T.a_check_row T.d_check_row ["row"] (sp_check_row K) := by
  refine okG T.F_check_row sc_check_row (fun vs H Q E h => ?_) (fun cdv A out s H vs Q E hr h => ?_)
  · obtain ⟨a, ns, rfl, hS, h0, h1, q⟩ := h
    rfl
  · obtain ⟨a, ns, rfl, hS, h0, h1, q⟩ := h
    refine ⟨_, (pss_cons (ps_if (PW.pt (pw_or (pt_not (pt_val (pe_callB (call_isiK' (K := K) rfl) (by rfl) T.z_isinstance bt_isinstance (pa_cons (pv 0) (pa_cons (pe_bltn (v := .ty "list") (by rfl) T.z_list bt_list rfl) pa_nil))))) (pw_or1 (pt_cmpR op_eq (pe_callB (call_lenK (K := K) rfl) (by rfl) T.z_len bt_len (pa_cons (pv 0) pa_nil)) pe_int (nomark _)))))
      (pss_one ps_never)
      pss_nil)
    (pss_one (ps_if (pt_not (pt_val (pe_callB (cr_allK (K := K) rfl rfl) (by rfl) T.z_all bt_all (pa_cons (pe_lc (own := [("number", 1)]) (g := gName 1) rfl sc_check_row.nd (pi_listK (K := K) rfl (pv 0)) (blkOk_by (own := [("number", 1)]) (N := ["row", "number"]) (sc := defScope s_check_row) (by decide +kernel)) (fun _ _ _ _ _ => (pg_name (i := 1) sc_check_row.nd rfl (Or.inl rfl))) (fun _ _ _ _ _ => pts_nil) (fun _ _ _ _ _ => (callG (ok_is_whole T) (hr.mono (by decide)) (by rfl) T.g_is_whole T.F_is_whole.kp (b_is_whole T) .nil pass0 (pa_cons (pv 1) pa_nil)))) pa_nil))))
      (pss_one ps_never)
      pss_nil))), ?_⟩
    refine q_when (b := false) (et_or (a := false) (b := false) (et_not (a := true) (et_B (ev_isi (ev_var rfl) (fun H1 e => ty_seql (ex_l e hS)) kb_list_list))) fun _ => et_is (et_test (ev_op (ev_len (ev_var rfl) hS) ev_c (rv_eq rfl))) ?_) (fun h => nomatch h) (fun _ H1 e1 => ?_)
    · exact decide_eq_false fun z => by
        have z' : ((vi ns).length : Int) = 0 := V.int.inj z
        rw [List.length_map] at z'
        omega
    refine s_when (b := false) (et_not (a := true) (et_B (ev_is (ev_allN (bs := List.replicate ns.length true) (el_is (el_lcL (fun _ => true) (fun _ => V.bl true) (ev_var rfl) (ex_l e1 hS) (by rw [List.length_map]; omega) (fun _ => rfl) (fun _ _ _ _ _ => et_yes) ?_) ?_)) ?_))) (fun h => nomatch h) fun _ H2 e2 => q H2 (e1.trans e2)
    · intro i x H2 e2 hx _
      obtain ⟨m, rfl, hm, hg⟩ := vi_inv hx
      exact ev_call (ea_cons (ev_var rfl) ea_nil) (v_is_whole m)
    · rw [given_all, List.length_map, List.map_replicate]
      refine List.ext_getElem? fun i => ?_
      rw [List.getElem?_map, List.getElem?_replicate]
      by_cases hi : i < ns.length
      · rw [List.getElem?_range hi, if_pos hi]
        rfl
      · rw [List.getElem?_eq_none (by rw [List.length_range]; omega), if_neg hi]
        rfl
    · rw [show (List.replicate ns.length true).all id = true by simp]
/-! ### new_number -/
def getI (kvs : List (Key × V)) (k : Key) : Int := match valV kvs k with | some (.int c) => c | _ => 0
theorem valI_get {kvs : List (Key × V)} (h : ValI kvs) (k : Key) : (valV kvs k).getD (.int 0) = .int (getI kvs k) := by
  unfold getI
  cases g : valV kvs k with
  | none => rfl
  | some v =>
    obtain ⟨_, c, e⟩ := h _ (valV_mem g)
    cases e
    rfl
def nval (kvs : List (Key × V)) (d : Nat) (i : Nat) : Int := match kvs[i]? with | some (.inl k, .int c) => c * ((k.toNat ^ d : Nat) : Int) | _ => 0
def nsum (k1 : List (Key × V)) (f : List (Nat × Int)) : Int := (f.map fun x => x.2 * ((List.range k1.length).map (nval k1 x.1)).sum).sum
def nnV (k1 k2 : List (Key × V)) (n : Nat) : Int := (n : Int) * getI k2 (.inl (n : Int)) + nsum k1 (sd n)
theorem nsum_take {k1 : List (Key × V)} {f : List (Nat × Int)} {i : Nat} {x : Nat × Int} (h : f[i]? = some x) : nsum k1 (f.take (i + 1)) = nsum k1 (f.take i) + x.2 * ((List.range k1.length).map (nval k1 x.1)).sum := by
  unfold nsum
  rw [List.take_succ, h, List.map_append, List.sum_append]
  simp
def sp_new_number (K : PySem.W.Frag) : Sp := fun vs H Q _ => ∃ (d1 d2 : Addr) (k1 k2 : List (Key × V)) (n : Nat), vs = [.ref d1, .ref d2, .int (n : Int)] ∧ H d1 = some (.dK k1) ∧ H d2 = some (.dK k2) ∧ PosN k1 ∧ ValI k2 ∧ k2.length ≤ 12 ∧ 1 ≤ n ∧ n ≤ 300 ∧ RetV (.int (nnV k1 k2 n)) H Q
theorem p40_lt {b d : Nat} (hb : b ≤ 40) (hd : d ≤ 300) : ∀ j, j ≤ d → b ^ j < 2 ^ 4000 := fun j hj => Nat.lt_of_le_of_lt (Nat.pow_le_pow_left hb j) (Nat.lt_of_le_of_lt (Nat.pow_le_pow_left (show 40 ≤ 2 ^ 6 by decide) j) (by
  rw [← Nat.pow_mul]
  exact Nat.pow_lt_pow_right (by decide) (by omega)))
theorem ok_new_number (T : Txt K mg) : FnG PP w K mg base CX0 2 T.a_new_number T.d_new_number ["powers", "rings", "n"] (sp_new_number K) := by
  refine okG T.F_new_number sc_new_number (fun vs H Q E h => ?_) (fun cdv A out s H vs Q E hr h => ?_)
  · obtain ⟨d1, d2, k1, k2, n, rfl, h1, h2, p1, p2, l2, n0, n1, q⟩ := h
    rfl
  · obtain ⟨d1, d2, k1, k2, n, rfl, h1, h2, p1, p2, l2, n0, n1, q⟩ := h
    refine ⟨_, (pss_cons (ps_set (i := 3) sc_new_number.nd rfl (.inl rfl) (pe_op op_mul (pv 2) (pe_dget2 (hu_of hr.rm) (pv 1) (pv 2) pe_int ⟨rfl, rfl, rfl, rfl⟩)))
    (pss_cons (ps_for PassesOwn.never rfl (pi_listK (K := K) rfl (callG (ok_signed_divisors T) (hr.mono (by decide)) (by rfl) T.g_signed_divisors T.F_signed_divisors.kp (b_signed_divisors T) .nil pass0 (pa_cons (pv 2) pa_nil))) (pg_tup rfl (pgs_cons (pg_name (i := 4) sc_new_number.nd rfl (.inr rfl)) (pgs_cons (pg_name (i := 5) sc_new_number.nd rfl (.inl rfl)) pgs_nil)))
      (pss_one (ps_aug (i := 3) sc_new_number.nd rfl (.inl rfl) (pe_op op_mul (pv 5) (pe_callB (cr_sumK (K := K) rfl rfl) (by rfl) T.z_sum bt_sum (pa_cons (pe_lock (pe_lc (own := [("base", 6), ("count", 7)]) (g := g2 K 6 7) rfl sc_new_number.nd (pi_items (pv 0)) (blkOk_by (own := [("base", 6), ("count", 7)]) (N := ["powers", "rings", "n", "found", "divisor", "sign", "base", "count"]) (sc := defScope s_new_number) (by decide +kernel)) (fun _ _ _ _ _ => (pg_tup rfl (pgs_cons (pg_name (i := 6) sc_new_number.nd rfl (Or.inl rfl)) (pgs_cons (pg_name (i := 7) sc_new_number.nd rfl (Or.inl rfl)) pgs_nil)))) (fun _ _ _ _ _ => pts_nil) (fun _ _ _ _ _ => (pe_op op_mul (pv 7) (callG (ok_to_power T) (hr.mono (by decide)) (by rfl) T.g_to_power T.F_to_power.kp (b_to_power T) .nil pass0 (pa_cons (pv 6) (pa_cons (pv 4) pa_nil))))))) pa_nil))) ip_add)))
    (pss_one (ps_ret (pv 3))))), ?_⟩
    obtain ⟨lk, p1⟩ := p1
    refine q_asg (v := .int ((n : Int) * getI k2 (.inl (n : Int)))) (ev_op (ev_var rfl) (ev_is (ev_get2 (k := .inl (n : Int)) (x := .int 0) (ev_var rfl) h2 (ev_var rfl) ev_c) (valI_get p2 _)) (rv_I (cml (by omega)))) fun H1 e1 => ?_
    refine ⟨.int n, rfl, n, rfl, n0, n1, fun l H2 hl e2 G => ?_⟩
    obtain ⟨qs, gl, lq, fq⟩ := G.len
    refine ⟨l, rfl, ⟨_, sq_of gl⟩, for_list (xs := qs.map V.ref) (fun i σ' H' => ∃ (y4 y5 y6 y7 : Option V), σ' = [some (.ref d1), some (.ref d2), some (.int (n : Int)), some (.int ((n : Int) * getI k2 (.inl (n : Int)) + nsum k1 ((sd n).take i))), y4, y5, y6, y7] ∧ Ex H2 H') ⟨none, none, none, none, ?_, Ex.refl _⟩ ?_ ?_ ?_⟩
    · rw [show nsum k1 ((sd n).take 0) = 0 from rfl, Int.add_zero]
      rfl
    · rintro i σ' H' _ ⟨y4, y5, y6, y7, rfl, e⟩
      exact sq_of (e _ _ gl)
    · rintro i v σ' H' hv ⟨y4, y5, y6, y7, rfl, e⟩
      rw [List.getElem?_map] at hv
      cases hg : qs[i]? with
      | none =>
        rw [hg] at hv
        cases hv
      | some p =>
        rw [hg] at hv
        cases hv
        have hi := (List.getElem?_eq_some_iff.mp hg).1
        have hx : (sd n)[i]? = some ((sd n)[i]'(by omega)) := List.getElem?_eq_getElem _
        generalize (sd n)[i]'(by omega) = x at hx
        obtain ⟨b0, b1, sg⟩ := sd_ok n0 n1 (List.mem_of_getElem? hx)
        refine ⟨p, _, rfl, st_of (e _ _ (fq i p x hg hx)), rfl, _, _, rfl, _, _, rfl, rfl, ?_⟩
        refine s_aug rfl (ev_op (ev_var rfl) (ev_sumN (ns := (List.range k1.length).map (nval k1 x.1)) (el_is (el_lcIt (fun _ => true) (fun i => .int (nval k1 x.1 i)) rfl ((e1.trans (e2.trans e)) _ _ h1) (by omega) (fun _ _ => rfl) (fun _ _ _ _ => et_yes) ?_) (given_ints _ _))) (rv_I (cml (by rcases sg with h | h <;> rw [h] <;> decide)))) fun H3 e3 => ⟨_, _, _, _, (by rw [nsum_take hx, ← Int.add_assoc]; rfl), e.trans e3⟩
        intro m e' H3 he _
        obtain ⟨k, c', rfl, a0, a1, a2, a3⟩ := p1 e' (List.mem_of_getElem? he)
        obtain ⟨b, rfl⟩ : ∃ b : Nat, k = b := ⟨k.toNat, by omega⟩
        have ev : nval k1 x.1 m = c' * ((b ^ x.1 : Nat) : Int) := by
          unfold nval
          rw [he]
          rfl
        rw [ev]
        exact ev_op (ev_var rfl) (ev_call (ea_cons (ev_var rfl) (ea_cons (ev_var rfl) ea_nil)) (v_to_powerW (p40_lt (by omega) (by omega)))) (rv_I (cml (by omega)))
    · rintro σ' H' ⟨y4, y5, y6, y7, rfl, e⟩
      rw [List.length_map, lq, List.take_length]
      exact s_ret (ev_var rfl) fun H3 e3 => q H3 (e1.trans (e2.trans (e.trans e3)))
/-! ### _strands -/
def sp_strands (K : PySem.W.Frag) : Sp := fun vs H Q _ => ∃ (d : Addr) (kvs : List (Key × V)), vs = [.ref d] ∧ H d = some (.dK kvs) ∧ PosB kvs ∧ ∀ l t dw kvs2 H2, H l = none → Ex H H2 → H2 l = some (.lst [.ref t]) → H2 t = some (.tup [.int 1, .ref dw]) → H2 dw = some (.dK kvs2) → Pos kvs2 → Q (.ref l) H2
theorem ok_strands (T : Txt K mg) : FnG PP w K mg base CX0 2 T.a_strands T.d_strands ["powers"] (sp_strands K) := by
  refine okG T.F_strands sc_strands (fun vs H Q E h => ?_) (fun cdv A out s H vs Q E hr h => ?_)
  · obtain ⟨d, kvs, rfl, g, pb, q⟩ := h
    rfl
  · obtain ⟨d, kvs, rfl, g, pb, q⟩ := h
    refine ⟨_, (pss_cons (ps_if (pt_val (pe_callB (cr_allK (K := K) rfl rfl) (by rfl) T.z_all bt_all (pa_cons (pe_lock (pe_lc (own := [("base", 4)]) (g := gName 4) rfl sc_strands.nd (pi_keys (pv 0)) (blkOk_by (own := [("base", 4)]) (N := ["powers", "odd", "even", "squares", "base", "count"]) (sc := defScope s_strands) (by decide +kernel)) (fun _ _ _ _ _ => (pg_name (i := 4) sc_strands.nd rfl (Or.inl rfl))) (fun _ _ _ _ _ => pts_nil) (fun _ _ _ _ _ => (pe_cmpR op_ge (pv 4) pe_int (nomark _))))) pa_nil)))
      (pss_one (ps_ret (pe_lst (pa_cons (pe_tup (pa_cons pe_int (pa_cons (callG (ok_weights T) (hr.mono (by decide)) (by rfl) T.g_weights T.F_weights.kp (b_weights T) .nil pass0 (pa_cons (pe_listItems rfl (by rfl) T.z_list (pv 0)) pa_nil)) pa_nil))) pa_nil))))
      pss_nil)
    (pss_cons ps_never
    (pss_cons ps_never
    (pss_cons ps_never
    (pss_one ps_never))))), ?_⟩
    obtain ⟨lk, pk⟩ := id pb
    refine q_when (b := true) (et_B (ev_is (ev_allN (bs := List.replicate kvs.length true) (el_is (el_lcKy (fun _ => true) (fun _ => V.bl true) rfl g (by omega) (fun _ => rfl) (fun _ _ _ _ => et_yes) (fun n e H2 he _ => ?_)) ?_)) (by simp))) (fun _ H1 e1 => ?_) (fun h => nomatch h)
    · obtain ⟨k, c, rfl, k0, _⟩ := pk e (List.mem_of_getElem? he)
      exact ev_op (ev_var rfl) ev_c (rv_b (decide_eq_true k0))
    · rw [given_all]
      refine List.ext_getElem? fun i => ?_
      rw [List.getElem?_map, List.getElem?_map, List.getElem?_replicate]
      by_cases hi : i < kvs.length
      · rw [List.getElem?_range hi, if_pos hi]
        rfl
      · rw [List.getElem?_eq_none (by rw [List.length_range]; omega), if_neg hi]
        rfl
    refine ⟨.ref d, rfl, d, kvs, rfl, e1 _ _ g, fun p ts H2 hp e2 g2 lt ft nt => ⟨p, ts, kvs.map intOf, rfl, g2, by rw [List.length_map]; exact lt, by rw [List.length_map]; exact lk, fun i a p' ha hp' => ?_, fun p' hp' => ?_, fun kvs2 pos pw H3 hpw e3 g3 => ⟨sz_of (by show 2 ≤ 100000; decide), fun t ht => ⟨sz_of (by show 1 ≤ 100000; decide), fun l hl => ?_⟩⟩⟩⟩
    · obtain ⟨e, he, rfl⟩ := map_at hp'
      obtain ⟨k, c, rfl, _⟩ := pk e (List.mem_of_getElem? he)
      exact ft i a _ ha he
    · obtain ⟨e, he, rfl⟩ := List.mem_map.mp hp'
      obtain ⟨k, c, rfl, _, c0⟩ := pk e he
      exact c0
    have a1 : Ex H3 (upd H3 t (.tup [.int 1, .ref pw])) := Ex.new ht
    have a2 := Ex.new (o := .lst [.ref t]) hl
    have e13 := (e1.trans e2).trans e3
    exact q l t pw kvs2 _ (fresh_back (e13.trans a1) hl) ((e13.trans a1).trans a2) upd_same (a2 _ _ upd_same) (a2 _ _ (a1 _ _ g3)) pos
/-! ### _numbers_of_term -/
def sp_numbers_of_term (K : PySem.W.Frag) : Sp := fun vs H Q _ => ∃ (a : Addr) (t : Tm) (n : Nat), vs = [.ref a, .int (n : Int)] ∧ SqT K H a (tv t) ∧ TmOk t ∧ n ≤ 4000 ∧ RetL (vi (tuv t n)) H Q
theorem l_numbers_of_term {K : PySem.W.Frag} {H : Hp} {a : Addr} {t : Tm} {n : Nat} (h : SqT K H a (tv t)) (ok : TmOk t) (hn : n ≤ 4000) : SpL (sp_numbers_of_term K) [.ref a, .int (n : Int)] H (vi (tuv t n)) := fun H1 e Q q E => ⟨a, t, n, rfl, ex_t e h, ok, hn, q⟩
theorem ok_numbers_of_term (T : Txt K mg) : FnG PP w K mg base CX0 2 T.a_numbers_of_term T.d_numbers_of_term ["term", "many"] (sp_numbers_of_term K) := by
  refine okG T.F_numbers_of_term sc_numbers_of_term (fun vs H Q E h => ?_) (fun cdv A out s H vs Q E hr h => ?_)
  · obtain ⟨a, ⟨w, c, z⟩, n, rfl, hT, ⟨c0, c1, w2, p, r, s⟩, hn, q⟩ := h
    rfl
  · obtain ⟨a, ⟨w, c, z⟩, n, rfl, hT, ⟨c0, c1, w2, p, r, s⟩, hn, q⟩ := h
    refine ⟨_, (pss_cons (ps_asg (pv 0) (pg_tup rfl (pgs_cons (pg_name (i := 2) sc_numbers_of_term.nd rfl (.inl rfl)) (pgs_cons (pg_name (i := 3) sc_numbers_of_term.nd rfl (.inr rfl)) (pgs_cons (pg_name (i := 4) sc_numbers_of_term.nd rfl (.inr rfl)) pgs_nil)))))
    (pss_cons (ps_if (pt_cmpR op_eq (pv 2) pe_str (nomark _))
      (pss_one (ps_ret (callG (ok_powers T) (hr.mono (by decide)) (by rfl) T.g_powers T.F_powers.kp (b_powers T) .nil pass0 (pa_cons (pv 3) (pa_cons (pv 4) (pa_cons (pv 1) pa_nil))))))
      pss_nil)
    (pss_cons (ps_if (pt_cmpR op_eq (pv 2) pe_str (nomark _))
      (pss_one (ps_ret (pe_lc (own := [("n", 5)]) (g := gName 5) rfl sc_numbers_of_term.nd (pi_range2 (by rfl) T.z_range (pa_cons pe_int (pa_cons (pe_op op_add (pv 1) pe_int) pa_nil))) (blkOk_by (own := [("n", 5)]) (N := ["term", "many", "kind", "count", "size", "n"]) (sc := defScope s_numbers_of_term) (by decide +kernel)) (fun _ _ _ _ _ => (pg_name (i := 5) sc_numbers_of_term.nd rfl (Or.inl rfl))) (fun _ _ _ _ _ => pts_nil) (fun _ _ _ _ _ => (pe_ifExp (pt_cmpR op_eq (pe_op op_mod (pv 5) (pv 4)) pe_int (nomark _)) (pe_op op_mul (pv 3) (pv 4)) pe_int)))))
      pss_nil)
    (pss_one (ps_ret (pe_lc (own := [("n", 5)]) (g := gName 5) rfl sc_numbers_of_term.nd (pi_range2 (by rfl) T.z_range (pa_cons pe_int (pa_cons (pe_op op_add (pv 1) pe_int) pa_nil))) (blkOk_by (own := [("n", 5)]) (N := ["term", "many", "kind", "count", "size", "n"]) (sc := defScope s_numbers_of_term) (by decide +kernel)) (fun _ _ _ _ _ => (pg_name (i := 5) sc_numbers_of_term.nd rfl (Or.inl rfl))) (fun _ _ _ _ _ => pts_nil) (fun _ _ _ _ _ => (pe_op op_mul (pv 3) (callG (ok_to_power T) (hr.mono (by decide)) (by rfl) T.g_to_power T.F_to_power.kp (b_to_power T) .nil pass0 (pa_cons (pv 5) (pa_cons (pv 4) pa_nil))))))))))), ?_⟩
    replace c0 : -1000000 ≤ c := c0
    replace c1 : c ≤ 1000000 := c1
    replace w2 : w < 3 := w2
    replace p : w = 0 → -40 ≤ z ∧ z ≤ 40 := p
    replace r : w = 1 → 1 ≤ z ∧ z ≤ 300 := r
    replace s : w = 2 → 1 ≤ z ∧ z ≤ 6 := s
    refine q_tup3 (ev_var rfl) hT fun H1 e1 => ?_
    match w, w2 with
    | 0, _ =>
      have lim := p rfl
      refine q_when (b := true) (et_is (et_test (ev_op (ev_var rfl) ev_c rv_eqS)) (by rfl)) (fun _ H2 e2 => ?_) (fun h => nomatch h)
      exact s_retL (el_call (ea_cons (ev_var rfl) (ea_cons (ev_var rfl) (ea_cons (ev_var rfl) ea_nil))) (l_powers lim.1 lim.2 hn)) fun l H3 h3 e3 g3 => q l H3 (fresh_back (e1.trans e2) h3) ((e1.trans e2).trans e3) g3
    | 1, _ =>
      have lim := r rfl
      refine q_when (b := false) (et_is (et_test (ev_op (ev_var rfl) ev_c rv_eqS)) (by rfl)) (fun h => nomatch h) fun _ H2 e2 => ?_
      refine q_when (b := true) (et_is (et_test (ev_op (ev_var rfl) ev_c rv_eqS)) (by rfl)) (fun _ H3 e3 => ?_) (fun h => nomatch h)
      refine s_retL (el_is (el_lcR2 (lo := 1) (n := (n : Int) + 1) (fun _ => true) (fun i => V.int (tat ⟨1, c, z⟩ (i + 1))) (ea_cons ev_c (ea_cons (ev_op (ev_var rfl) ev_c rv_I0) ea_nil)) (by omega) (fun _ => rfl) (fun _ _ _ _ => et_yes) ?_) ?_) fun l H4 h4 e4 g4 => q l H4 (fresh_back ((e1.trans e2).trans e3) h4) (((e1.trans e2).trans e3).trans e4) g4
      · intro i H4 e4 hi _
        have hz : (0 : Int) < z := by omega
        by_cases c : (1 + (i : Int)) % z = 0
        · exact ev_is (ev_if (b := true) (et_is (et_test (ev_op (ev_op (ev_var rfl) (ev_var rfl) (rv_I hz)) ev_c (rv_eq rfl))) (by rw [c]; rfl)) (fun _ => ev_op (ev_var rfl) (ev_var rfl) (rv_I (cml (by dsimp only; omega)))) (fun h => nomatch h)) (by
            show _ = V.int (if ((i + 1 : Nat) : Int) % z = 0 then _ else _)
            rw [show ((i + 1 : Nat) : Int) = 1 + (i : Int) by omega, if_pos c])
        · exact ev_is (ev_if (b := false) (et_is (et_test (ev_op (ev_op (ev_var rfl) (ev_var rfl) (rv_I hz)) ev_c (rv_eq rfl))) (decide_eq_false fun h => c (V.int.inj h))) (fun h => nomatch h) (fun _ => ev_c)) (by
            show _ = V.int (if ((i + 1 : Nat) : Int) % z = 0 then _ else _)
            rw [show ((i + 1 : Nat) : Int) = 1 + (i : Int) by omega, if_neg c])
      · rw [show ((n : Int) + 1 - 1).toNat = n by omega, given_tab]
        rfl
    | 2, _ =>
      have lim := s rfl
      refine q_when (b := false) (et_is (et_test (ev_op (ev_var rfl) ev_c rv_eqS)) (by rfl)) (fun h => nomatch h) fun _ H2 e2 => ?_
      refine q_when (b := false) (et_is (et_test (ev_op (ev_var rfl) ev_c rv_eqS)) (by rfl)) (fun h => nomatch h) fun _ H3 e3 => ?_
      obtain ⟨k, rfl⟩ : ∃ k : Nat, z = k := ⟨z.toNat, by omega⟩
      refine s_retL (el_is (el_lcR2 (lo := 1) (n := (n : Int) + 1) (fun _ => true) (fun i => V.int (tat ⟨2, c, (k : Int)⟩ (i + 1))) (ea_cons ev_c (ea_cons (ev_op (ev_var rfl) ev_c rv_I0) ea_nil)) (by omega) (fun _ => rfl) (fun _ _ _ _ => et_yes) ?_) ?_) fun l H4 h4 e4 g4 => q l H4 (fresh_back ((e1.trans e2).trans e3) h4) (((e1.trans e2).trans e3).trans e4) g4
      · intro i H4 e4 hi _
        exact ev_is (ev_op (ev_var rfl) (ev_call (ea_cons (ev_is (ev_var rfl) (show V.int (1 + (i : Int)) = .int ((i + 1 : Nat) : Int) by congr 1; omega)) (ea_cons (ev_var rfl) ea_nil)) (v_to_power (by omega) (by omega))) (rv_I (cml (by dsimp only; omega)))) rfl
      · rw [show ((n : Int) + 1 - 1).toNat = n by omega, given_tab]
        rfl
    | w + 3, h => exact absurd h (by omega)
/-! ### is_term -/
theorem kb_int_tuple : kitB "int" "tuple" = some false := by decide +kernel
theorem kb_none_tuple : kitB "NoneType" "tuple" = some false := by decide +kernel
theorem kb_bool_tuple : kitB "bool" "tuple" = some false := by decide +kernel
theorem kb_str_tuple : kitB "str" "tuple" = some false := by decide +kernel
theorem kb_list_tuple : kitB "list" "tuple" = some false := by decide +kernel
theorem kb_dict_tuple : kitB "dict" "tuple" = some false := by decide +kernel
theorem kb_int_str : kitB "int" "str" = some false := by decide +kernel
theorem kb_none_str : kitB "NoneType" "str" = some false := by decide +kernel
theorem kb_bool_str : kitB "bool" "str" = some false := by decide +kernel
theorem kb_list_str : kitB "list" "str" = some false := by decide +kernel
theorem kb_tuple_str : kitB "tuple" "str" = some false := by decide +kernel
theorem kb_dict_str : kitB "dict" "str" = some false := by decide +kernel
def sp_is_term (K : PySem.W.Frag) : Sp := fun vs H Q _ => ∃ (x : V) (b : Bool), vs = [x] ∧ JT K H x b ∧ RetV (.bl b) H Q
theorem JT.ex {H H' : Hp} {x : V} {b : Bool} (h : JT K H x b) (e : Ex H H') : JT K H' x b := by
  rcases h with ⟨a, kd, cv, zv, co, zo, rfl, h1, h2, h3, rfl⟩ | ⟨rfl, h | h | h | h | ⟨a, xs, h, g⟩ | ⟨a, kvs, h, g⟩ | ⟨a, xs, h, g, n⟩ | ⟨a, k, c, z, h, g, n⟩⟩
  · exact .inl ⟨a, kd, cv, zv, co, zo, rfl, ex_t e h1, h2.ex e, h3.ex e, rfl⟩
  · exact .inr ⟨rfl, .inl h⟩
  · exact .inr ⟨rfl, .inr (.inl h)⟩
  · exact .inr ⟨rfl, .inr (.inr (.inl h))⟩
  · exact .inr ⟨rfl, .inr (.inr (.inr (.inl h)))⟩
  · exact .inr ⟨rfl, .inr (.inr (.inr (.inr (.inl ⟨a, xs, h, ex_l e g⟩))))⟩
  · exact .inr ⟨rfl, .inr (.inr (.inr (.inr (.inr (.inl ⟨a, kvs, h, e _ _ g⟩)))))⟩
  · exact .inr ⟨rfl, .inr (.inr (.inr (.inr (.inr (.inr (.inl ⟨a, xs, h, ex_t e g, n⟩))))))⟩
  · refine .inr ⟨rfl, .inr (.inr (.inr (.inr (.inr (.inr (.inr ⟨a, k, c, z, h, ex_t e g, ?_⟩))))))⟩
    rcases n with n | n | n | ⟨b, xs, n, g⟩ | ⟨b, xs, n, g⟩
    · exact .inl n
    · exact .inr (.inl n)
    · exact .inr (.inr (.inl n))
    · exact .inr (.inr (.inr (.inl ⟨b, xs, n, ex_l e g⟩)))
    · exact .inr (.inr (.inr (.inr ⟨b, xs, n, ex_t e g⟩)))
theorem v_is_termJ {H : Hp} {x : V} {b : Bool} (h : JT K H x b) : SpV (sp_is_term K) [x] H (.bl b) := fun H1 e Q q E => ⟨x, b, rfl, h.ex e, q⟩
theorem v_is_term {H : Hp} {a : Addr} {t : Tm} (h : SqT K H a (tv t)) (ok : TmOk t) : SpV (sp_is_term K) [.ref a] H (.bl true) := by
  have := v_is_termJ (jt_tm h)
  rwa [(tmB_iff ok.w2).mpr ok] at this
theorem ok_is_term (T : Txt K mg) : FnG PP w K mg base CX0 3 T.a_is_term T.d_is_term ["value"] (sp_is_term K) := by
  refine okG T.F_is_term sc_is_term (fun vs H Q E h => ?_) (fun cdv A out s H vs Q E hr h => ?_)
  · obtain ⟨x, b, rfl, hx, q⟩ := h
    rfl
  · obtain ⟨x, b, rfl, hx, q⟩ := h
    refine ⟨_, (pss_cons (ps_if (PW.pt (pw_or (pt_not (pt_val (pe_callB (call_isiK' (K := K) rfl) (by rfl) T.z_isinstance bt_isinstance (pa_cons (pv 0) (pa_cons (pe_bltn (v := .ty "tuple") (by rfl) T.z_tuple bt_tuple rfl) pa_nil))))) (pw_or1 (pt_cmpR op_ne (pe_callB (call_lenK (K := K) rfl) (by rfl) T.z_len bt_len (pa_cons (pv 0) pa_nil)) pe_int (nomark _)))))
      (pss_one (ps_ret pe_bl))
      pss_nil)
    (pss_cons (ps_asg (pv 0) (pg_tup rfl (pgs_cons (pg_name (i := 1) sc_is_term.nd rfl (.inr rfl)) (pgs_cons (pg_name (i := 2) sc_is_term.nd rfl (.inl rfl)) (pgs_cons (pg_name (i := 3) sc_is_term.nd rfl (.inr rfl)) pgs_nil)))))
    (pss_cons (ps_if (PW.pt (pw_or (pt_not (pt_val (pe_callB (call_isiK' (K := K) rfl) (by rfl) T.z_isinstance bt_isinstance (pa_cons (pv 1) (pa_cons (pe_bltn (v := .ty "str") (by rfl) T.z_str bt_str rfl) pa_nil))))) (pw_or1 (pt_not (pt_val (callG (ok_is_from_to T) (hr.mono (by decide)) (by rfl) T.g_is_from_to T.F_is_from_to.kp (b_is_from_to T) .nil pass0 (pa_cons (pv 2) (pa_cons (pe_un un_neg (pe_glob (v := .int 1000000) rfl T.c_MOST_COUNT ⟨_, rfl⟩)) (pa_cons (pe_glob (v := .int 1000000) rfl T.c_MOST_COUNT ⟨_, rfl⟩) pa_nil)))))))))
      (pss_one (ps_ret pe_bl))
      pss_nil)
    (pss_one (ps_ret (pe_callB (cr_anyK (K := K) rfl rfl) (by rfl) T.z_any bt_any (pa_cons (pe_lc (own := [("name", 4), ("least", 5), ("most", 6)]) (g := gTup K 3 (gCons (gName 4) (gCons (gName 5) (gCons (gName 6) gNil)))) rfl sc_is_term.nd (pi_tupK (K := K) rfl (pe_glob (v := .ref T.a_KINDS) rfl T.g_KINDS rfl)) (blkOk_by (own := [("name", 4), ("least", 5), ("most", 6)]) (N := ["value", "kind", "count", "size", "name", "least", "most"]) (sc := defScope s_is_term) (by decide +kernel)) (fun _ _ _ _ _ => (pg_tup rfl (pgs_cons (pg_name (i := 4) sc_is_term.nd rfl (Or.inl rfl)) (pgs_cons (pg_name (i := 5) sc_is_term.nd rfl (Or.inl rfl)) (pgs_cons (pg_name (i := 6) sc_is_term.nd rfl (Or.inl rfl)) pgs_nil))))) (fun _ _ _ _ _ => pts_nil) (fun _ _ _ _ _ => (pe_and (pe_cmpR op_eq (pv 1) (pv 4) (nomark _)) (pe_one (callG (ok_is_from_to T) (hr.mono (by decide)) (by rfl) T.g_is_from_to T.F_is_from_to.kp (b_is_from_to T) .nil pass0 (pa_cons (pv 3) (pa_cons (pv 5) (pa_cons (pv 6) pa_nil)))))))) pa_nil))))))), ?_⟩
    rcases hx with ⟨a, kd, cv, zv, co, zo, rfl, hT, nc, nz, rfl⟩ | ⟨rfl, ⟨m, rfl⟩ | rfl | ⟨c, rfl⟩ | ⟨s, rfl⟩ | ⟨a, xs, rfl, g⟩ | ⟨a, kvs, rfl, g⟩ | ⟨a, xs, rfl, g, n3⟩ | ⟨a, k, c, z, rfl, g, hk⟩⟩
    · refine q_when (b := false) (et_or (a := false) (b := false) (et_not (a := true) (et_B (ev_isi (ev_var rfl) (fun H1 e => ty_seqt (ex_t e hT)) kb_tuple_tuple))) fun _ => et_is (et_test (ev_op (ev_lenT (ev_var rfl) hT) ev_c (rv_ne rfl))) rfl) (fun h => nomatch h) fun _ H1 e1 => ?_
      refine q_tup3 (ev_var rfl) (ex_t e1 hT) fun H2 e2 => ?_
      have e12 := e1.trans e2
      have tst := et_or (a := false) (b := !(inZ co (-1000000) 1000000)) (σ := [some (.ref a), some (.str kd), some cv, some zv, none, none, none]) (H := H2) (et_not (a := true) (et_B (ev_isi (K := K) (ta := tVar 1) (ev_var rfl) (fun H1 e => .base (.str _)) kb_str_str))) fun _ => et_not (et_B (ev_call (E := E0) (ea_cons (ta := tVar 2) (ev_var rfl) (ea_cons (ev_neg (ta := tC (.int 1000000)) ev_c) (ea_cons (ta := tC (.int 1000000)) ev_c ea_nil))) (v_is_from_toN (K := K) (nc.ex e12))))
      rw [Bool.false_or] at tst
      cases hc : inZ co (-1000000) 1000000 with
      | false =>
        rw [hc] at tst
        have eb : tmB kd co zo = false := by
          unfold tmB
          rw [hc]
          rfl
        rw [eb] at q
        exact q_when tst (fun _ H3 e3 => s_ret ev_c fun H4 e4 => q H4 ((e12.trans e3).trans e4)) (fun h => nomatch h)
      | true =>
        rw [hc] at tst
        refine q_when tst (fun h => nomatch h) fun _ H3 e3 => ?_
        have eb : tmB kd co zo = ([decide (kd = ("power" : Str)) && inZ zo (-40) 40, decide (kd = ("ring" : Str)) && inZ zo 1 300, decide (kd = ("places" : Str)) && inZ zo 1 6].any id) := by
          unfold tmB
          rw [hc]
          simp
        rw [eb] at q
        replace nz := nz.ex e12
        have h3 : ∀ (n : Nat) (x : V), ([.ref T.a_KINDS_0, .ref T.a_KINDS_1, .ref T.a_KINDS_2] : List V)[n]? = some x → ∃ t p, x = .ref t ∧ ([(.str "power", .int (-40), .int 40), (.str "ring", .int 1, .int 300), (.str "places", .int 1, .int 6)] : List (V × V × V))[n]? = some p ∧ SqT K H3 t [p.1, p.2.1, p.2.2] := fun n x hx => match n, hx with
          | 0, hx => by cases hx; exact ⟨_, _, rfl, rfl, T.q_KINDS_0.sq⟩
          | 1, hx => by cases hx; exact ⟨_, _, rfl, rfl, T.q_KINDS_1.sq⟩
          | 2, hx => by cases hx; exact ⟨_, _, rfl, rfl, T.q_KINDS_2.sq⟩
          | n + 3, hx => by cases hx
        refine s_ret (ev_anyN (bs := [decide (kd = ("power" : Str)) && inZ zo (-40) 40, decide (kd = ("ring" : Str)) && inZ zo 1 300, decide (kd = ("places" : Str)) && inZ zo 1 6]) (el_is (el_lcT3 (fun n => match n with | 0 => V.bl (decide (kd = ("power" : Str)) && inZ zo (-40) 40) | 1 => V.bl (decide (kd = ("ring" : Str)) && inZ zo 1 300) | _ => V.bl (decide (kd = ("places" : Str)) && inZ zo 1 6)) [(.str "power", .int (-40), .int 40), (.str "ring", .int 1, .int 300), (.str "places", .int 1, .int 6)] ev_c T.q_KINDS.sq (by show 3 ≤ 40000; decide) h3 (fun _ _ _ => rfl) (fun n p H4 e hp => ?_)) rfl)) fun H4 e4 => q H4 ((e12.trans e3).trans e4)
        match n, hp with
        | 0, hp =>
          cases hp
          refine ev_is (ev_andV (a := decide (kd = ("power" : Str))) (b := inZ zo (-40) 40) (ev_op (ev_var rfl) (ev_var rfl) rv_eqS) fun _ => ev_call (ea_cons (ev_var rfl) (ea_cons (ev_var rfl) (ea_cons (ev_var rfl) ea_nil))) (v_is_from_toN (nz.ex (e3.trans e)))) rfl
        | 1, hp =>
          cases hp
          refine ev_is (ev_andV (a := decide (kd = ("ring" : Str))) (b := inZ zo (1) 300) (ev_op (ev_var rfl) (ev_var rfl) rv_eqS) fun _ => ev_call (ea_cons (ev_var rfl) (ea_cons (ev_var rfl) (ea_cons (ev_var rfl) ea_nil))) (v_is_from_toN (nz.ex (e3.trans e)))) rfl
        | 2, hp =>
          cases hp
          refine ev_is (ev_andV (a := decide (kd = ("places" : Str))) (b := inZ zo (1) 6) (ev_op (ev_var rfl) (ev_var rfl) rv_eqS) fun _ => ev_call (ea_cons (ev_var rfl) (ea_cons (ev_var rfl) (ea_cons (ev_var rfl) ea_nil))) (v_is_from_toN (nz.ex (e3.trans e)))) rfl
        | n + 3, hp => cases hp
    · exact q_when (b := true) (et_or (a := true) (b := true) (et_not (a := false) (et_B (ev_isi (ev_var rfl) (fun H1 e => .base (.int m)) kb_int_tuple))) (fun h => nomatch h)) (fun _ H1 e1 => s_ret ev_c fun H2 e2 => q H2 (e1.trans e2)) (fun h => nomatch h)
    · exact q_when (b := true) (et_or (a := true) (b := true) (et_not (a := false) (et_B (ev_isi (ev_var rfl) (fun H1 e => .base .non) kb_none_tuple))) (fun h => nomatch h)) (fun _ H1 e1 => s_ret ev_c fun H2 e2 => q H2 (e1.trans e2)) (fun h => nomatch h)
    · exact q_when (b := true) (et_or (a := true) (b := true) (et_not (a := false) (et_B (ev_isi (ev_var rfl) (fun H1 e => .base (.bl c)) kb_bool_tuple))) (fun h => nomatch h)) (fun _ H1 e1 => s_ret ev_c fun H2 e2 => q H2 (e1.trans e2)) (fun h => nomatch h)
    · exact q_when (b := true) (et_or (a := true) (b := true) (et_not (a := false) (et_B (ev_isi (ev_var rfl) (fun H1 e => .base (.str s)) kb_str_tuple))) (fun h => nomatch h)) (fun _ H1 e1 => s_ret ev_c fun H2 e2 => q H2 (e1.trans e2)) (fun h => nomatch h)
    · exact q_when (b := true) (et_or (a := true) (b := true) (et_not (a := false) (et_B (ev_isi (ev_var rfl) (fun H1 e => ty_seql (ex_l e g)) kb_list_tuple))) (fun h => nomatch h)) (fun _ H1 e1 => s_ret ev_c fun H2 e2 => q H2 (e1.trans e2)) (fun h => nomatch h)
    · exact q_when (b := true) (et_or (a := true) (b := true) (et_not (a := false) (et_B (ev_isi (ev_var rfl) (fun H1 e => .base (.dK (e _ _ g))) kb_dict_tuple))) (fun h => nomatch h)) (fun _ H1 e1 => s_ret ev_c fun H2 e2 => q H2 (e1.trans e2)) (fun h => nomatch h)
    · refine q_when (b := true) (et_or (a := false) (b := true) (et_not (a := true) (et_B (ev_isi (ev_var rfl) (fun H1 e => ty_seqt (ex_t e g)) kb_tuple_tuple))) fun _ => et_is (et_test (ev_op (ev_lenT (ev_var rfl) g) ev_c (rv_ne rfl))) ?_) (fun _ H1 e1 => s_ret ev_c fun H2 e2 => q H2 (e1.trans e2)) (fun h => nomatch h)
      rw [decide_eq_false fun z => n3 (by have := V.int.inj z; omega)]
      rfl
    · refine q_when (b := false) (et_or (a := false) (b := false) (et_not (a := true) (et_B (ev_isi (ev_var rfl) (fun H1 e => ty_seqt (ex_t e g)) kb_tuple_tuple))) fun _ => et_is (et_test (ev_op (ev_lenT (ev_var rfl) g) ev_c (rv_ne rfl))) rfl) (fun h => nomatch h) fun _ H1 e1 => ?_
      refine q_tup3 (ev_var rfl) (ex_t e1 g) fun H2 e2 => ?_
      have e12 := e1.trans e2
      rcases hk with ⟨m, rfl⟩ | rfl | ⟨c, rfl⟩ | ⟨b, xs, rfl, gk⟩ | ⟨b, xs, rfl, gk⟩
      · exact q_when (b := true) (et_or (a := true) (b := true) (et_not (a := false) (et_B (ev_isi (ev_var rfl) (fun H1 e => .base (.int m)) kb_int_str))) (fun h => nomatch h)) (fun _ H3 e3 => s_ret ev_c fun H4 e4 => q H4 ((e12.trans e3).trans e4)) (fun h => nomatch h)
      · exact q_when (b := true) (et_or (a := true) (b := true) (et_not (a := false) (et_B (ev_isi (ev_var rfl) (fun H1 e => .base .non) kb_none_str))) (fun h => nomatch h)) (fun _ H3 e3 => s_ret ev_c fun H4 e4 => q H4 ((e12.trans e3).trans e4)) (fun h => nomatch h)
      · exact q_when (b := true) (et_or (a := true) (b := true) (et_not (a := false) (et_B (ev_isi (ev_var rfl) (fun H1 e => .base (.bl c)) kb_bool_str))) (fun h => nomatch h)) (fun _ H3 e3 => s_ret ev_c fun H4 e4 => q H4 ((e12.trans e3).trans e4)) (fun h => nomatch h)
      · exact q_when (b := true) (et_or (a := true) (b := true) (et_not (a := false) (et_B (ev_isi (ev_var rfl) (fun H1 e => ty_seql (ex_l (e12.trans e) gk)) kb_list_str))) (fun h => nomatch h)) (fun _ H3 e3 => s_ret ev_c fun H4 e4 => q H4 ((e12.trans e3).trans e4)) (fun h => nomatch h)
      · exact q_when (b := true) (et_or (a := true) (b := true) (et_not (a := false) (et_B (ev_isi (ev_var rfl) (fun H1 e => ty_seqt (ex_t (e12.trans e) gk)) kb_tuple_str))) (fun h => nomatch h)) (fun _ H3 e3 => s_ret ev_c fun H4 e4 => q H4 ((e12.trans e3).trans e4)) (fun h => nomatch h)
/-! ### first_below -/
def sp_first_below (K : PySem.W.Frag) : Sp := fun vs H Q _ => ∃ (d1 d2 : Addr) (s : Int) (k1 k2 : List (Key × V)), vs = [.ref d1, .ref d2, .int s] ∧ H d1 = some (.dK k1) ∧ H d2 = some (.dK k2) ∧ PosB k1 ∧ Pos k2 ∧ RetV .non H Q
theorem ok_first_below (T : Txt K mg) : FnG PP w K mg base CX0 3 T.a_first_below T.d_first_below ["powers", "rings", "start"] (sp_first_below K) := by
  refine okG T.F_first_below sc_first_below (fun vs H Q E h => ?_) (fun cdv A out s H vs Q E hr h => ?_)
  · obtain ⟨d1, d2, s, k1, k2, rfl, ga, gb, p1, ⟨l2, p2⟩, q⟩ := h
    rfl
  · obtain ⟨d1, d2, s, k1, k2, rfl, ga, gb, p1, ⟨l2, p2⟩, q⟩ := h
    refine ⟨_, (pss_cons (ps_lock (ps_setLc (i := 3) (own := [("n", 7), ("count", 8)]) (g := g2 K 7 8) rfl sc_first_below.nd rfl rfl (sw_true rfl rfl rfl (by decide +kernel)) (pi_items (pv 1)) (blkOk_by (own := [("n", 7), ("count", 8)]) (N := ["powers", "rings", "start", "found", "times", "weights", "m", "n", "count"]) (sc := defScope s_first_below) (by decide +kernel)) (fun _ _ _ _ _ => (pg_tup rfl (pgs_cons (pg_name (i := 7) sc_first_below.nd rfl (Or.inl rfl)) (pgs_cons (pg_name (i := 8) sc_first_below.nd rfl (Or.inl rfl)) pgs_nil)))) (fun _ _ _ _ _ => (pts_one (PW.pt (pw_and (pt_cmpR op_ge (pv 7) (pv 2) (nomark _)) (pw_and (pt_cmpR op_lt (pv 8) pe_int (nomark _)) (pw_and1 (pt_cmpR op_lt (callG (ok_new_number T) (hr.mono (by decide)) (by rfl) T.g_new_number T.F_new_number.kp (b_new_number T) .nil pass0 (pa_cons (pv 0) (pa_cons (pv 1) (pa_cons (pv 7) pa_nil)))) pe_int (nomark _)))))))) (fun _ _ _ _ _ => (pv 7))))
    (pss_cons (ps_for PassesOwn.never rfl (pi_listK (K := K) rfl (callG (ok_strands T) (hr.mono (by decide)) (by rfl) T.g_strands T.F_strands.kp (b_strands T) .nil pass0 (pa_cons (pv 0) pa_nil))) (pg_tup rfl (pgs_cons (pg_name (i := 4) sc_first_below.nd rfl (.inl rfl)) (pgs_cons (pg_name (i := 5) sc_first_below.nd rfl (.inl rfl)) pgs_nil)))
      (pss_cons (ps_set (i := 6) sc_first_below.nd rfl (.inl rfl) (callG (ok_next_doubt T) (hr.mono (by decide)) (by rfl) T.g_next_doubt T.F_next_doubt.kp (b_next_doubt T) .nil pass0 (pa_cons (pv 5) (pa_cons (pe_op op_fdivW (pe_op op_sub (pe_op op_add (pv 2) (pv 4)) pe_int) (pv 4)) pa_nil))))
      (pss_cons (ps_while PassesOwn.never (PW.pt (pw_and (pt_cmpR op_notN (pv 6) pe_non (nomark _)) (pw_and1 (pt_cmpR op_ge (callG (ok_new_number T) (hr.mono (by decide)) (by rfl) T.g_new_number T.F_new_number.kp (b_new_number T) .nil pass0 (pa_cons (pv 0) (pa_cons (pv 1) (pa_cons (pe_op op_mul (pv 4) (pv 6)) pa_nil)))) pe_int (nomark _)))))
        (pss_one ps_never))
      (pss_one (ps_if (pt_cmpR op_notN (pv 6) pe_non (nomark _))
        (pss_one ps_never)
        pss_nil)))))
    (pss_one (ps_ret (pe_callBK (cr_minNone (K := K) rfl rfl (hu_of hr.rm)) (by rfl) T.z_min bt_min (pa_cons (pv 3) pa_nil) (pk_cons pe_non pk_nil)))))), ?_⟩
    refine q_asgLk (xs := []) (el_is (el_lcIt (fun _ => false) (fun _ => .non) rfl gb (by omega) (fun _ _ => rfl) (fun n e H2 he => ?_) (fun _ _ _ _ h => nomatch h)) (given_none _ _)) fun pf H1 f1 e1 gf => ?_
    · obtain ⟨k, c, rfl, c0⟩ := p2 e (List.mem_of_getElem? he)
      by_cases hs : s ≤ k
      · exact et_and (a := true) (b := false) (et_test (ev_op (ev_var rfl) (ev_var rfl) (rv_b (decide_eq_true hs)))) fun _ => et_and (a := false) (b := false) (et_test (ev_op (ev_var rfl) ev_c (rv_b (decide_eq_false (by omega))))) (fun h => nomatch h)
      · exact et_and (a := false) (b := false) (et_test (ev_op (ev_var rfl) (ev_var rfl) (rv_b (decide_eq_false hs)))) (fun h => nomatch h)
    refine ⟨.ref d1, rfl, d1, k1, rfl, e1 _ _ ga, p1, fun l t dw k3 H2 hl e2 gl gt gw p3 => ?_⟩
    refine ⟨l, rfl, ⟨_, sq_of gl⟩, for_list (xs := [.ref t]) (fun i σ' H' => ∃ (y4 y5 y6 y7 y8 : Option V), σ' = [some (.ref d1), some (.ref d2), some (.int s), some (.ref pf), y4, y5, y6, y7, y8] ∧ Ex H2 H') ⟨_, _, _, _, _, rfl, Ex.refl _⟩ ?_ ?_ ?_⟩
    · rintro i σ' H' _ ⟨y4, y5, y6, y7, y8, rfl, e⟩
      exact sq_of (e _ _ gl)
    · rintro i v σ' H' hv ⟨y4, y5, y6, y7, y8, rfl, e⟩
      have hi : i = 0 := by
        have := (List.getElem?_eq_some_iff.mp hv).1
        have e1 : ([V.ref t] : List V).length = 1 := rfl
        omega
      subst hi
      cases hv
      refine ⟨t, _, rfl, st_of (e _ _ gt), rfl, _, _, rfl, _, _, rfl, rfl, ?_⟩
      refine q_asg (v := .non) (ev_call (ea_cons (ev_var rfl) (ea_cons (ev_op (ev_op (ev_op (ev_var rfl) (ev_var rfl) rv_I0) ev_c rv_I0) (ev_var rfl) (rv_I (cdw _ (by decide) (by decide)))) ea_nil)) (v_next_doubt (e _ _ gw) p3)) fun H3 e3 => ?_
      refine q_while (fun m σ' H' => ∃ (y4 y5 y7 y8 : Option V), σ' = [some (.ref d1), some (.ref d2), some (.int s), some (.ref pf), y4, y5, some .non, y7, y8] ∧ Ex H2 H') 0 ⟨_, _, _, _, rfl, e.trans e3⟩ ?_
      rintro m σ'' H'' ⟨z4, z5, z7, z8, rfl, e''⟩
      refine ⟨false, et_and (a := false) (b := false) (et_test (ev_op (ev_var rfl) ev_c rv_notN)) (fun h => nomatch h), (fun h => nomatch h), fun _ H6 e6 => ?_⟩
      refine s_if (b := false) (et_test (ev_op (ev_var rfl) ev_c rv_notN)) (fun h => nomatch h) (fun _ H7 e7 => ?_)
      exact ⟨_, _, _, _, _, rfl, (e''.trans e6).trans e7⟩
    · rintro σ' H' ⟨y4, y5, y6, y7, y8, rfl, e⟩
      exact s_ret (v := .non) (ev_minNone (ev_var rfl) (sq_of (e _ _ (e2 _ _ gf)))) fun H3 e3 => q H3 ((e1.trans e2).trans (e.trans e3))
/-! ### new_numbers -/
def sp_new_numbers (K : PySem.W.Frag) : Sp := fun vs H Q _ => ∃ (a : Addr) (r : List Int), vs = [.ref a] ∧ SqL K H a (vi r) ∧ 0 < r.length ∧ r.length ≤ 4000 ∧ RetL (vi (newL r)) H Q
theorem l_new_numbers {K : PySem.W.Frag} {H : Hp} {a : Addr} {r : List Int} (h : SqL K H a (vi r)) (h0 : 0 < r.length) (h1 : r.length ≤ 4000) : SpL (sp_new_numbers K) [.ref a] H (vi (newL r)) := fun H1 e Q q E => ⟨a, r, rfl, ex_l e h, h0, h1, q⟩
theorem ok_new_numbers (T : Txt K mg) : FnG PP w K mg base CX0 3 T.a_new_numbers T.d_new_numbers ["row"] (sp_new_numbers K) := by
  refine okG T.F_new_numbers sc_new_numbers (fun vs H Q E h => ?_) (fun cdv A out s H vs Q E hr h => ?_)
  · obtain ⟨a, r, rfl, hS, h0, h1, q⟩ := h
    rfl
  · obtain ⟨a, r, rfl, hS, h0, h1, q⟩ := h
    refine ⟨_, (pss_cons (ps_expr (callG (ok_check_row T) (hr.mono (by decide)) (by rfl) T.g_check_row T.F_check_row.kp (b_check_row T) .nil pass0 (pa_cons (pv 0) pa_nil)))
    (pss_cons (ps_set (i := 1) sc_new_numbers.nd rfl (.inl rfl) (pe_callB (call_lenK (K := K) rfl) (by rfl) T.z_len bt_len (pa_cons (pv 0) pa_nil)))
    (pss_cons (ps_set (i := 2) sc_new_numbers.nd rfl (.inl rfl) (pe_callTy (call_listK (K := K) rfl) (by rfl) T.z_list bt_list (pa_cons (pv 0) pa_nil)))
    (pss_cons (ps_for PassesOwn.never rfl (pi_range2 (by rfl) T.z_range (pa_cons pe_int (pa_cons (pe_op op_add (pv 1) pe_int) pa_nil))) (pg_name (i := 3) sc_new_numbers.nd rfl (.inl rfl))
      (pss_one (ps_for PassesOwn.never rfl (pi_range3 (by rfl) T.z_range (pa_cons (pe_op op_mul pe_int (pv 3)) (pa_cons (pe_op op_add (pv 1) pe_int) (pa_cons (pv 3) pa_nil)))) (pg_name (i := 4) sc_new_numbers.nd rfl (.inl rfl))
        (pss_one (ps_augS (pv 2) (pe_op op_sub (pv 4) pe_int) pget_list (pe_ix (ix_listK (K := K) rfl) (pv 2) (pe_op op_sub (pv 3) pe_int) (fun _ _ => rfl)) ip_sub set_list)))))
    (pss_one (ps_ret (pv 2))))))), ?_⟩
    refine q_drop (ev_call (ea_cons (ev_var rfl) ea_nil) (v_check_row hS h0 h1)) fun H1 e1 => ?_
    refine q_asg (v := .int (r.length : Int)) (ev_is (ev_len (ev_var rfl) (ex_l e1 hS)) (by rw [List.length_map])) fun H2 e2 => ?_
    refine q_asgL (el_list (ev_var rfl) (ex_l (e1.trans e2) hS)) fun pn H3 f3 e3 h3 => ?_
    have fp : H pn = none := fresh_back (e1.trans e2) f3
    refine q_forR2 (lo := 1) (n := (r.length : Int) + 1) (ea_cons ev_c (ea_cons (ev_op (ev_var rfl) ev_c rv_I0) ea_nil)) (by omega)
      (fun k σ' H' => ∃ (y3 y4 : Option V), σ' = [some (.ref a), some (.int (r.length : Int)), some (.ref pn), y3, y4] ∧ Ex H H' ∧ H' pn = some (.lst (vi (tabL r.length (sub r k))))) ?_ ?_ ?_
    · intro H4 e4
      refine ⟨_, _, rfl, ((e1.trans e2).trans e3).trans e4, ?_⟩
      have e5 : tabL r.length (sub r 0) = r := tab_self r
      rw [e5]
      exact e4 _ _ h3
    · rintro k σ' H' hk ⟨y3, y4, rfl, e, g⟩
      have hk' : k < r.length := by omega
      have e1k : (1 : Int) + (k : Int) = ((k + 1 : Nat) : Int) := by omega
      rw [e1k]
      refine s_forR3G (lo := 2 * ((k + 1 : Nat) : Int)) (j := (r.length : Int) + 1) (c := ((k + 1 : Nat) : Int)) (ea_cons (ev_op ev_c (ev_var rfl) (rv_I (cml (by decide)))) (ea_cons (ev_op (ev_var rfl) ev_c rv_I0) (ea_cons (ev_var rfl) ea_nil))) (by omega) (by omega) (by omega) (by omega) (by omega) (by omega)
        (fun t σ' H' => ∃ (y4 : Option V), σ' = [some (.ref a), some (.int (r.length : Int)), some (.ref pn), some (.int ((k + 1 : Nat) : Int)), y4] ∧ Ex H H' ∧ H' pn = some (.lst (vi (tabL r.length fun i => sub r k i - (if k < i ∧ (i + 1) % (k + 1) = 0 ∧ (i + 1) / (k + 1) ≤ t + 1 then sub r k k else 0))))) ?_ ?_ ?_
      · intro H4 e4
        refine ⟨_, rfl, e.trans e4, ?_⟩
        rw [e4 _ _ g]
        congr 3
        refine tab_congr fun i hi => ?_
        rw [if_neg]
        · omega
        · rintro ⟨h1, h2, h3⟩
          have e := Nat.div_add_mod (i + 1) (k + 1)
          rw [h2] at e
          have : (k + 1) * ((i + 1) / (k + 1)) ≤ (k + 1) * 1 := Nat.mul_le_mul_left _ (by omega)
          omega
      · rintro t σ'' H'' ht ⟨y4, rfl, e', g'⟩
        have ej : 2 * ((k + 1 : Nat) : Int) + (t : Int) * ((k + 1 : Nat) : Int) = (((k + 1) * (t + 1 + 1) : Nat) : Int) := by
          rw [Int.natCast_mul, ← Int.add_mul, Int.mul_comm]
          congr 1
          omega
        rw [ej] at ht ⊢
        have hpos : 0 < (k + 1) * (t + 1 + 1) := Nat.mul_pos (Nat.succ_pos k) (Nat.succ_pos _)
        have hge : (k + 1) * 2 ≤ (k + 1) * (t + 1 + 1) := Nat.mul_le_mul_left _ (by omega)
        obtain ⟨m1, m2⟩ := mul_mod (n := k + 1) (t := t + 1) (Nat.succ_pos k)
        generalize hj : (k + 1) * (t + 1 + 1) = M at *
        refine s_augL (j := M - 1) (f := fun i j => i - j) (a := sub r k (M - 1)) (b := sub r k k) (ev_var rfl) (ev_is (ev_op (ev_var rfl) ev_c rv_I0) (by congr 1; omega)) g' (by
          rw [tab_at (by omega), if_neg]
          · rw [Int.sub_zero]
          · rintro ⟨_, _, z⟩
            omega) (ev_op (ev_var rfl) (ev_is (ev_op (ev_var rfl) ev_c rv_I0) (by show V.int (((k + 1 : Nat) : Int) - 1) = .int ((k : Nat) : Int); congr 1; omega)) (rv_ixL (sq_of g') (atI_nat (by
            rw [tab_at hk', if_neg (fun z => Nat.lt_irrefl _ z.1), Int.sub_zero])))) fun H4 e4 => ?_
        refine ⟨_, rfl, (e'.trans e4).mut fp, ?_⟩
        rw [upd_same, vi_set, tab_set (by omega)]
        congr 3
        refine tab_congr fun i hi => ?_
        by_cases c : i = M - 1
        · rw [if_pos c, c, if_pos ⟨by omega, m1, by omega⟩]
        · rw [if_neg c]
          by_cases d : k < i ∧ (i + 1) % (k + 1) = 0
          · have hx := mul_ix (n := k + 1) (t := t + 1) (Nat.succ_pos k) d.2
            rw [hj] at hx
            by_cases d2 : (i + 1) / (k + 1) ≤ t + 1
            · rw [if_pos ⟨d.1, d.2, d2⟩, if_pos ⟨d.1, d.2, by omega⟩]
            · rw [if_neg fun z => d2 z.2.2, if_neg fun z => (hx.mp z.2.2).elim d2 fun z => by omega]
          · rw [if_neg fun z => d ⟨z.1, z.2.1⟩, if_neg fun z => d ⟨z.1, z.2.1⟩]
      · rintro t σ'' H'' ht ⟨y4, rfl, e', g'⟩
        refine ⟨_, _, rfl, e', ?_⟩
        rw [g']
        congr 3
        refine tab_congr fun i hi => ?_
        show _ = sub r k i - (if k < i ∧ (i + 1) % (k + 1) = 0 then sub r k k else 0)
        by_cases d : k < i ∧ (i + 1) % (k + 1) = 0
        · have ej : 2 * ((k + 1 : Nat) : Int) + (t : Int) * ((k + 1 : Nat) : Int) = (((t + 1 + 1) * (k + 1) : Nat) : Int) := by
            rw [Int.natCast_mul, ← Int.add_mul]
            congr 1
            omega
          rw [ej] at ht
          have hlt : i + 1 < (t + 1 + 1) * (k + 1) := by
            generalize (t + 1 + 1) * (k + 1) = M at ht ⊢
            omega
          have hle : (i + 1) / (k + 1) < t + 1 + 1 := (Nat.div_lt_iff_lt_mul (Nat.succ_pos k)).mpr hlt
          rw [if_pos d, if_pos ⟨d.1, d.2, Nat.le_of_lt_succ hle⟩]
        · rw [if_neg d, if_neg fun z => d ⟨z.1, z.2.1⟩]
    · rintro σ' H' ⟨y3, y4, rfl, e, g⟩
      rw [show ((r.length : Int) + 1 - 1).toNat = r.length by omega] at g
      exact s_ret (ev_var rfl) fun H4 e4 => q pn H4 fp (e.trans e4) (e4 _ _ g)
/-! ### _numbers -/
def sp_numbers (K : PySem.W.Frag) : Sp := fun vs H Q _ => ∃ (r : Addr) (ts : List Tm) (n : Nat), vs = [.ref r, .int (n : Int)] ∧ Rul H r ts ∧ (∀ t ∈ ts, TmOk t) ∧ n ≤ 4000 ∧ RetL (vi (ruv ts n)) H Q
theorem l_numbers {K : PySem.W.Frag} {H : Hp} {r : Addr} {ts : List Tm} {n : Nat} (h : Rul H r ts) (ok : ∀ t ∈ ts, TmOk t) (hn : n ≤ 4000) : SpL (sp_numbers K) [.ref r, .int (n : Int)] H (vi (ruv ts n)) := fun H1 e Q q E => ⟨r, ts, n, rfl, h.ex e, ok, hn, q⟩
theorem el_lcZN {K : PySem.W.Frag} {σ : L2.St} {H : Hp} {te : TE} {a : Addr} {xs ys : List V} {tl tr : TE} {i j : Nat} {vs : List Nat} (v : Nat → V) (h : Ev tl σ H (.ref a)) (h' : EvL tr σ H ys) (hx : SqL K H a xs) (hz : xs.length ≤ 40000)
    (hw : ∀ x y, wipe (((wipe σ vs).set i (some x)).set j (some y)) vs = wipe σ vs)
    (he : ∀ (n : Nat) x y H1, Ex H H1 → xs[n]? = some x → ys[n]? = some y → Ev te (((wipe σ vs).set i (some x)).set j (some y)) H1 (v n)) :
    EvL (tLc (iZip K (tCons tl (tCons tr tNil))) (g2 K i j) tYes te vs) σ H (given (min xs.length ys.length) (fun _ => true) v) := fun H0 e Q q => h H0 e _ fun H1 e1 => h' H1 (e.trans e1) _ fun b H2 hb e2 g2 => by
  have ee := (e.trans e1).trans e2
  have r := el_lcZ (K := K) (σ := σ) (H := H2) (te := te) (a := a) (b := b) (xs := xs) (ys := ys) (tl := fun σ H Q => Q (.ref a) H) (tr := fun σ H Q => Q (.ref b) H) (i := i) (j := j) (vs := vs) v (fun H1 e Q q => q H1 (Ex.refl H1)) (fun H1 e Q q => q H1 (Ex.refl H1)) (ex_l ee hx) (sq_of g2) hz hw (fun n x y H1 e3 a b => he n x y H1 (ee.trans e3) a b)
  exact r H2 (Ex.refl H2) Q fun p H3 hp e3 g3 => q p H3 (fresh_back (e1.trans e2) hp) ((e1.trans e2).trans e3) g3
theorem ok_numbers (T : Txt K mg) : FnG PP w K mg base CX0 3 T.a_numbers T.d_numbers ["rule", "many"] (sp_numbers K) := by
  refine okG T.F_numbers sc_numbers (fun vs H Q E h => ?_) (fun cdv A out s H vs Q E hr h => ?_)
  · obtain ⟨r, ts, n, rfl, hR, ok, hn, q⟩ := h
    rfl
  · obtain ⟨r, ts, n, rfl, hR, ok, hn, q⟩ := h
    refine ⟨_, (pss_cons (ps_set (i := 2) sc_numbers.nd rfl (.inl rfl) (pe_op op_rep (pe_lst (pa_cons pe_int pa_nil)) (pv 1)))
    (pss_cons (ps_for PassesOwn.never rfl (pi_listK (K := K) rfl (pv 0)) (pg_name (i := 3) sc_numbers.nd rfl (.inl rfl))
      (pss_one (ps_setLc (i := 2) (own := [("number", 4), ("more", 5)]) (g := g2 K 4 5) rfl sc_numbers.nd rfl rfl (sw_true rfl rfl rfl (by decide +kernel)) (pi_zip (by rfl) T.z_zip (pa_cons (pv 2) (pa_cons (callG (ok_numbers_of_term T) (hr.mono (by decide)) (by rfl) T.g_numbers_of_term T.F_numbers_of_term.kp (b_numbers_of_term T) .nil pass0 (pa_cons (pv 3) (pa_cons (pv 1) pa_nil))) pa_nil))) (blkOk_by (own := [("number", 4), ("more", 5)]) (N := ["rule", "many", "row", "term", "number", "more"]) (sc := defScope s_numbers) (by decide +kernel)) (fun _ _ _ _ _ => (pg_tup rfl (pgs_cons (pg_name (i := 4) sc_numbers.nd rfl (Or.inl rfl)) (pgs_cons (pg_name (i := 5) sc_numbers.nd rfl (Or.inl rfl)) pgs_nil)))) (fun _ _ _ _ _ => pts_nil) (fun _ _ _ _ _ => (pe_op op_add (pv 4) (pv 5))))))
    (pss_one (ps_ret (pv 2))))), ?_⟩
    obtain ⟨as, g, la, f⟩ := id hR
    refine q_asgL (xs := vi (ruv [] n)) (el_is (el_rep (n := (n : Int)) (el_lst (ea_cons ev_c ea_nil) (by show 1 ≤ 100000; decide)) (fun _ _ => ev_var rfl) (by omega) (by show 1 * _ ≤ _; omega) (by omega)) ?_) fun p H1 f1 e1 g1 => ?_
    · rw [flat_rep, Int.toNat_natCast]
      unfold ruv tabL vi
      rw [List.map_map]
      refine List.ext_getElem (by simp) fun i h1 h2 => ?_
      simp [rat]
    refine s_forLn' (ev_var rfl) (sq_of (e1 _ _ g)) (fun i σ' H' => ∃ (l : Addr) (y3 : Option V), σ' = [some (.ref r), some (.int (n : Int)), some (.ref l), y3, none, none] ∧ Ex H H' ∧ H l = none ∧ H' l = some (.lst (vi (ruv (ts.take i) n)))) ?_ ?_ ?_ ?_
    · intro H2 e2
      exact ⟨p, _, rfl, e1.trans e2, f1, e2 _ _ g1⟩
    · rintro i σ' H' _ ⟨l, y3, rfl, e, f2, g2⟩
      exact sq_of (e _ _ g)
    · rintro i x σ' H' hx ⟨l, y3, rfl, e, f2, g2⟩
      rw [List.getElem?_map] at hx
      cases hg : as[i]? with
      | none =>
        rw [hg] at hx
        cases hx
      | some a =>
        rw [hg] at hx
        cases hx
        have hi := (List.getElem?_eq_some_iff.mp hg).1
        have hi' : i < ts.length := by omega
        have ht : ts[i]? = some (ts[i]'hi') := List.getElem?_eq_getElem _
        refine s_asgL (xs := vi (ruv (ts.take (i + 1)) n)) (el_is (el_lcZN (fun k => V.int (rat (ts.take i) (k + 1) + tat (ts[i]'hi') (k + 1))) (ev_var rfl) (el_call (ea_cons (ev_var rfl) (ea_cons (ev_var rfl) ea_nil)) (l_numbers_of_term (st_of (e _ _ (f i a _ hg ht))) (ok _ (List.getElem_mem _)) hn)) (sq_of g2) (by rw [List.length_map]; unfold ruv; rw [tab_length]; omega) (fun _ _ => rfl) ?_) ?_) fun l2 H2 f3 e2 g3 => ?_
        · intro k x y H2 e2 hx hy
          have hk : k < n := by
            have := (List.getElem?_eq_some_iff.mp hx).1
            rw [List.length_map] at this
            unfold ruv at this
            rwa [tab_length] at this
          unfold ruv at hx
          unfold tuv at hy
          rw [tab_at hk] at hx hy
          cases hx
          cases hy
          exact ev_op (ev_var rfl) (ev_var rfl) rv_I0
        · rw [List.length_map, List.length_map]
          unfold ruv tuv
          rw [tab_length, tab_length, Nat.min_self, given_ints]
          unfold tabL
          congr 1
          refine List.map_congr_left fun k _ => ?_
          rw [List.take_succ, ht]
          exact (rat_snoc _ _ _).symm
        · exact ⟨l2, _, rfl, e.trans e2, fresh_back e f3, g3⟩
    · rintro σ' H' ⟨l, y3, rfl, e, f2, g2⟩
      rw [show (as.map V.ref).length = ts.length by rw [List.length_map, la], List.take_length] at g2
      exact s_ret (ev_var rfl) fun H2 e2 => q l H2 f2 (e.trans e2) (e2 _ _ g2)
/-! ### check_many -/
def sp_check_many (T : Txt K mg) : Sp := fun vs H Q E => ∃ (x : V) (o : Option Int), vs = [x] ∧ NV H x o ∧ (inZ o 1 300 = true → RetV .non H Q) ∧ (inZ o 1 300 = false → ∀ H1, Ex H H1 → E (.ref T.a_NoMany) none H1)
theorem v_check_many (T : Txt K mg) {H : Hp} {m : Nat} (h0 : 1 ≤ m) (h1 : m ≤ 300) : SpV (sp_check_many T) [.int (m : Int)] H .non := fun H1 e Q q E => ⟨_, some (m : Int), rfl, rfl, fun _ => q, fun h => by
  rw [in300_of h0 h1] at h
  cases h⟩
theorem ok_check_many (T : Txt K mg) : FnG PP w K mg base (L2.CX PP w) 4 T.a_check_many T.d_check_many ["many"] (sp_check_many T) := by
  refine bodyG T.F_check_many sc_check_many (fun vs H Q E h => ?_) (fun cdv A out s H vs Q E hr h => ?_)
  · obtain ⟨x, o, rfl, nx, q1, q2⟩ := h
    rfl
  · obtain ⟨x, o, rfl, nx, q1, q2⟩ := h
    refine ⟨_, (pss_one (ps_if (pt_not (pt_val (callG (ok_is_from_to T) (hr.mono (by decide)) (by rfl) T.g_is_from_to T.F_is_from_to.kp (b_is_from_to T) .nil pass0 (pa_cons (pv 0) (pa_cons pe_int (pa_cons (pe_glob (v := .int 300) rfl T.c_MOST_NUMBERS ⟨_, rfl⟩) pa_nil))))))
      (pss_one (ps_raise rfl (takes_of rfl rfl rfl rfl) (pmk_own F.excBase_ValueError T.x_NoMany T.e_NoMany.g T.e_NoMany.k (raises_own T.e_NoMany.ex.hs T.e_NoMany.t) rfl)))
      pss_nil)), ?_⟩
    cases hb : inZ o 1 300 with
    | true => exact s_when (b := false) (et_not (a := true) (et_B (ev_is (ev_call (ea_cons (ev_var rfl) (ea_cons ev_c (ea_cons ev_c ea_nil))) (v_is_from_toN nx)) (by rw [hb])))) (fun h => nomatch h) fun _ H1 e1 => q1 hb H1 e1
    | false => exact s_when (b := true) (et_not (a := false) (et_B (ev_is (ev_call (ea_cons (ev_var rfl) (ea_cons ev_c (ea_cons ev_c ea_nil))) (v_is_from_toN nx)) (by rw [hb])))) (fun _ H1 e1 => q2 hb H1 e1) (fun h => nomatch h)
/-! ### check_number -/
def sp_check_number (T : Txt K mg) : Sp := fun vs H Q E => ∃ (x : V) (o : Option Int), vs = [x] ∧ NV H x o ∧ (inZ o 1 300 = true → RetV .non H Q) ∧ (inZ o 1 300 = false → ∀ H1, Ex H H1 → E (.ref T.a_NoNumber) none H1)
theorem v_check_number (T : Txt K mg) {H : Hp} {m : Nat} (h0 : 1 ≤ m) (h1 : m ≤ 300) : SpV (sp_check_number T) [.int (m : Int)] H .non := fun H1 e Q q E => ⟨_, some (m : Int), rfl, rfl, fun _ => q, fun h => by
  rw [in300_of h0 h1] at h
  cases h⟩
theorem ok_check_number (T : Txt K mg) : FnG PP w K mg base (L2.CX PP w) 4 T.a_check_number T.d_check_number ["number"] (sp_check_number T) := by
  refine bodyG T.F_check_number sc_check_number (fun vs H Q E h => ?_) (fun cdv A out s H vs Q E hr h => ?_)
  · obtain ⟨x, o, rfl, nx, q1, q2⟩ := h
    rfl
  · obtain ⟨x, o, rfl, nx, q1, q2⟩ := h
    refine ⟨_, (pss_one (ps_if (pt_not (pt_val (callG (ok_is_from_to T) (hr.mono (by decide)) (by rfl) T.g_is_from_to T.F_is_from_to.kp (b_is_from_to T) .nil pass0 (pa_cons (pv 0) (pa_cons pe_int (pa_cons (pe_glob (v := .int 300) rfl T.c_MOST_NUMBERS ⟨_, rfl⟩) pa_nil))))))
      (pss_one (ps_raise rfl (takes_of rfl rfl rfl rfl) (pmk_own F.excBase_ValueError T.x_NoNumber T.e_NoNumber.g T.e_NoNumber.k (raises_own T.e_NoNumber.ex.hs T.e_NoNumber.t) rfl)))
      pss_nil)), ?_⟩
    cases hb : inZ o 1 300 with
    | true => exact s_when (b := false) (et_not (a := true) (et_B (ev_is (ev_call (ea_cons (ev_var rfl) (ea_cons ev_c (ea_cons ev_c ea_nil))) (v_is_from_toN nx)) (by rw [hb])))) (fun h => nomatch h) fun _ H1 e1 => q1 hb H1 e1
    | false => exact s_when (b := true) (et_not (a := false) (et_B (ev_is (ev_call (ea_cons (ev_var rfl) (ea_cons ev_c (ea_cons ev_c ea_nil))) (v_is_from_toN nx)) (by rw [hb])))) (fun _ H1 e1 => q2 hb H1 e1) (fun h => nomatch h)
/-! ### check_rule -/
theorem kb_none_list : kitB "NoneType" "list" = some false := by decide +kernel
theorem kb_int_list : kitB "int" "list" = some false := by decide +kernel
theorem kb_bool_list : kitB "bool" "list" = some false := by decide +kernel
theorem kb_str_list : kitB "str" "list" = some false := by decide +kernel
theorem kb_tuple_list : kitB "tuple" "list" = some false := by decide +kernel
theorem kb_dict_list : kitB "dict" "list" = some false := by decide +kernel
def sp_check_rule (T : Txt K mg) : Sp := fun vs H Q E => ∃ (x : V), vs = [x] ∧ ((∃ r ts, x = .ref r ∧ Rul H r ts ∧ 0 < ts.length ∧ ts.length ≤ 12 ∧ (∀ t ∈ ts, TmOk t) ∧ RetV .non H Q) ∨
  ∃ i, BadV K H x i ∧ ∀ H1 d, Ex H H1 → H1 d = none → E (.ref T.a_NoTerm) (some d) (upd H1 d (.xd [(("index" : Str), .int (i : Int))])))
theorem v_check_rule (T : Txt K mg) {H : Hp} {r : Addr} {ts : List Tm} (h : Rul H r ts) (h0 : 0 < ts.length) (h1 : ts.length ≤ 12) (ok : ∀ t ∈ ts, TmOk t) : SpV (sp_check_rule T) [.ref r] H .non := fun H1 e Q q E => ⟨.ref r, rfl, .inl ⟨r, ts, rfl, h.ex e, h0, h1, ok, q⟩⟩
theorem ok_check_rule (T : Txt K mg) : FnG PP w K mg base (L2.CX PP w) 4 T.a_check_rule T.d_check_rule ["rule"] (sp_check_rule T) := by
  refine bodyG T.F_check_rule sc_check_rule (fun vs H Q E h => ?_) (fun cdv A out s H vs Q E hr h => ?_)
  · obtain ⟨x, rfl, hx⟩ := h
    rfl
  · obtain ⟨x, rfl, hx⟩ := h
    refine ⟨_, (pss_cons (ps_if (PW.pt (pw_or (pt_not (pt_val (pe_callB (call_isiK' (K := K) rfl) (by rfl) T.z_isinstance bt_isinstance (pa_cons (pv 0) (pa_cons (pe_bltn (v := .ty "list") (by rfl) T.z_list bt_list rfl) pa_nil))))) (pw_or1 (pt_cmpR op_eq (pe_callB (call_lenK (K := K) rfl) (by rfl) T.z_len bt_len (pa_cons (pv 0) pa_nil)) pe_int (nomark _)))))
      (pss_one (ps_raise rfl (takes_of rfl rfl rfl rfl) (pmk_sup T.s_NoTerm T.sb_NoTerm (hr.rm.mono (by decide)) rfl T.e_NoTerm.g (pa_cons pe_int pa_nil))))
      pss_nil)
    (pss_one (ps_for (passes_of rfl) rfl (pi_enum (by rfl) T.z_enumerate (pa_cons (pv 0) pa_nil)) (pg_tup rfl (pgs_cons (pg_name (i := 1) sc_check_rule.nd rfl (.inl rfl)) (pgs_cons (pg_name (i := 2) sc_check_rule.nd rfl (.inl rfl)) pgs_nil)))
      (pss_one (ps_if (PW.pt (pw_or (pt_cmpR op_ge (pv 1) (pe_glob (v := .int 12) rfl T.c_MOST_TERMS ⟨_, rfl⟩) (nomark _)) (pw_or1 (pt_not (pt_val (callG (ok_is_term T) (hr.mono (by decide)) (by rfl) T.g_is_term T.F_is_term.kp (b_is_term T) .nil pass0 (pa_cons (pv 2) pa_nil)))))))
        (pss_one (ps_raise rfl (takes_of rfl rfl rfl rfl) (pmk_sup T.s_NoTerm T.sb_NoTerm (hr.rm.mono (by decide)) rfl T.e_NoTerm.g (pa_cons (pv 1) pa_nil))))
        pss_nil))))), ?_⟩
    rcases hx with ⟨r, ts, rfl, hR, h0, h12, ok, q⟩ | ⟨i, hB, qE⟩
    · skip
      obtain ⟨as, g, la, f⟩ := id hR
      refine q_when (b := false) (et_or (a := false) (b := false) (et_not (a := true) (et_B (ev_isi (ev_var rfl) (fun H1 e => ty_seql (sq_of (e _ _ g))) kb_list_list))) fun _ => et_is (et_test (ev_op (ev_len (ev_var rfl) (sq_of g)) ev_c (rv_eq rfl))) ?_) (fun h => nomatch h) (fun _ H1 e1 => ?_)
      · exact decide_eq_false fun z => by
          have z' : ((as.map V.ref).length : Int) = 0 := V.int.inj z
          rw [List.length_map] at z'
          omega
      refine s_forEn (ev_var rfl) (sq_of (e1 _ _ g)) (fun i σ' H' => ∃ y1 y2, σ' = [some (.ref r), y1, y2] ∧ Ex H H') (fun H2 e2 => ⟨none, none, rfl, e1.trans e2⟩) ?_ ?_ ?_
      · rintro i σ' H' _ ⟨_, _, _, e⟩
        exact sq_of (e _ _ g)
      · rintro i x σ' H' hx ⟨y1, y2, rfl, e⟩ H2 e2
        rw [List.getElem?_map] at hx
        cases hg : as[i]? with
        | none =>
          rw [hg] at hx
          cases hx
        | some a =>
          rw [hg] at hx
          cases hx
          have hi := (List.getElem?_eq_some_iff.mp hg).1
          have ht : ts[i]? = some (ts[i]'(by omega)) := List.getElem?_eq_getElem _
          refine s_when (b := false) (et_or (a := false) (b := false) (et_is (et_test (ev_op (ev_var rfl) ev_c rv_I0)) (decide_eq_false (by omega))) fun _ => et_not (a := true) (et_B (ev_call (ea_cons (ev_var rfl) ea_nil) (v_is_term (st_of ((e.trans e2) _ _ (f i a _ hg ht))) (ok _ (List.getElem_mem _)))))) (fun h => nomatch h) (fun _ H3 e3 => ?_)
          exact ⟨_, _, rfl, (e.trans e2).trans e3⟩
      · rintro σ' H' ⟨_, _, _, e⟩
        exact q H' e
    rcases hB with ⟨rfl, hn | ⟨r, rfl, g⟩⟩ | ⟨r, xs, rfl, g, hi, hl, prev, bad⟩
    · have tst : ∀ {b : Bool}, EvT (tOr (tNot (tB (tCB (rIsi K) (tCons (tVar 0) (tCons (tC (.ty "list")) tNil))))) (tTest (tOp rEq (tCB (rLenS K) (tCons (tVar 0) tNil)) (tC (.int 0))))) [some x, none, none] H true := fun {b} => by
        rcases hn with rfl | ⟨m, rfl⟩ | ⟨c, rfl⟩ | ⟨s, rfl⟩ | ⟨a, xs, rfl, g⟩ | ⟨a, kvs, rfl, g⟩
        · exact et_or (a := true) (b := true) (et_not (a := false) (et_B (ev_isi (ev_var rfl) (fun H1 e => .base .non) kb_none_list))) (fun h => nomatch h)
        · exact et_or (a := true) (b := true) (et_not (a := false) (et_B (ev_isi (ev_var rfl) (fun H1 e => .base (.int m)) kb_int_list))) (fun h => nomatch h)
        · exact et_or (a := true) (b := true) (et_not (a := false) (et_B (ev_isi (ev_var rfl) (fun H1 e => .base (.bl c)) kb_bool_list))) (fun h => nomatch h)
        · exact et_or (a := true) (b := true) (et_not (a := false) (et_B (ev_isi (ev_var rfl) (fun H1 e => .base (.str s)) kb_str_list))) (fun h => nomatch h)
        · exact et_or (a := true) (b := true) (et_not (a := false) (et_B (ev_isi (ev_var rfl) (fun H1 e => ty_seqt (st_of (e _ _ g))) kb_tuple_list))) (fun h => nomatch h)
        · exact et_or (a := true) (b := true) (et_not (a := false) (et_B (ev_isi (ev_var rfl) (fun H1 e => .base (.dK (e _ _ g))) kb_dict_list))) (fun h => nomatch h)
      refine q_when (b := true) (tst (b := true)) (fun _ H1 e1 => ?_) (fun h => nomatch h)
      exact mk_ev ev_c fun H2 d e2 hd => qE H2 d (e1.trans e2) hd
    · refine q_when (b := true) (et_or (a := false) (b := true) (et_not (a := true) (et_B (ev_isi (ev_var rfl) (fun H1 e => ty_seql (sq_of (e _ _ g))) kb_list_list))) fun _ => et_is (et_test (ev_op (ev_len (ev_var rfl) (sq_of g)) ev_c (rv_eq rfl))) rfl) (fun _ H1 e1 => ?_) (fun h => nomatch h)
      exact mk_ev ev_c fun H2 d e2 hd => qE H2 d (e1.trans e2) hd
    · refine q_when (b := false) (et_or (a := false) (b := false) (et_not (a := true) (et_B (ev_isi (ev_var rfl) (fun H1 e => ty_seql (sq_of (e _ _ g))) kb_list_list))) fun _ => et_is (et_test (ev_op (ev_len (ev_var rfl) (sq_of g)) ev_c (rv_eq rfl))) ?_) (fun h => nomatch h) (fun _ H1 e1 => ?_)
      · exact decide_eq_false fun z => by
          have z' : (xs.length : Int) = 0 := V.int.inj z
          omega
      refine s_forEn (ev_var rfl) (sq_of (e1 _ _ g)) (fun k σ' H' => ∃ y1 y2, σ' = [some (.ref r), y1, y2] ∧ Ex H H' ∧ k ≤ i) (fun H2 e2 => ⟨none, none, rfl, e1.trans e2, Nat.zero_le _⟩) ?_ ?_ ?_
      · rintro k σ' H' _ ⟨_, _, _, e, _⟩
        exact sq_of (e _ _ g)
      · rintro k x σ' H' hx ⟨y1, y2, rfl, e, ki⟩ H2 e2
        by_cases hk : k < i
        · obtain ⟨k12, j⟩ := prev k x hk hx
          refine s_when (b := false) (et_or (a := false) (b := false) (et_is (et_test (ev_op (ev_var rfl) ev_c rv_I0)) (decide_eq_false (by omega))) fun _ => et_not (a := true) (et_B (ev_call (ea_cons (ev_var rfl) ea_nil) (v_is_termJ (j.ex (e.trans e2)))))) (fun h => nomatch h) (fun _ H3 e3 => ?_)
          exact ⟨_, _, rfl, (e.trans e2).trans e3, by omega⟩
        · have ki' : k = i := by omega
          subst ki'
          by_cases k12 : 12 ≤ k
          · refine s_when (b := true) (et_or (a := true) (b := true) (et_is (et_test (ev_op (ev_var rfl) ev_c rv_I0)) (decide_eq_true (by omega))) fun h => nomatch h) (fun _ H3 e3 => ?_) (fun h => nomatch h)
            exact mk_ev (ev_var rfl) fun H4 d e4 hd => qE H4 d (((e.trans e2).trans e3).trans e4) hd
          · obtain ⟨v, hv, j⟩ := bad.resolve_left k12
            rw [hx] at hv
            cases hv
            refine s_when (b := true) (et_or (a := false) (b := true) (et_is (et_test (ev_op (ev_var rfl) ev_c rv_I0)) (decide_eq_false (by omega))) fun _ => et_not (a := false) (et_B (ev_call (ea_cons (ev_var rfl) ea_nil) (v_is_termJ (j.ex (e.trans e2)))))) (fun _ H3 e3 => ?_) (fun h => nomatch h)
            exact mk_ev (ev_var rfl) fun H4 d e4 hd => qE H4 d (((e.trans e2).trans e3).trans e4) hd
      · rintro σ' H' ⟨_, _, _, e, ki⟩
        omega
/-! ### first_bar -/
def sp_first_bar (K : PySem.W.Frag) : Sp := fun vs H Q _ => ∃ (a : Addr) (r : List Int), vs = [.ref a] ∧ SqL K H a (vi r) ∧ 0 < r.length ∧ r.length ≤ 4000 ∧ ((Free r ∧ RetV .non H Q) ∨ (r.getD 0 0 < 0 ∧ RetU [.int 1, .str "below"] H Q))
theorem v_first_bar {K : PySem.W.Frag} {H : Hp} {a : Addr} {r : List Int} (h : SqL K H a (vi r)) (h0 : 0 < r.length) (h1 : r.length ≤ 4000) (fr : Free r) : SpV (sp_first_bar K) [.ref a] H .non := fun H1 e Q q E => ⟨a, r, rfl, ex_l e h, h0, h1, .inl ⟨fr, q⟩⟩
theorem u_first_bar {K : PySem.W.Frag} {H : Hp} {a : Addr} {r : List Int} (h : SqL K H a (vi r)) (h0 : 0 < r.length) (h1 : r.length ≤ 4000) (lo : r.getD 0 0 < 0) : SpU (sp_first_bar K) [.ref a] H [.int 1, .str "below"] := fun H1 e Q q E => ⟨a, r, rfl, ex_l e h, h0, h1, .inr ⟨lo, q⟩⟩
theorem ok_first_bar (T : Txt K mg) : FnG PP w K mg base CX0 4 T.a_first_bar T.d_first_bar ["row"] (sp_first_bar K) := by
  refine okG T.F_first_bar sc_first_bar (fun vs H Q E h => ?_) (fun cdv A out s H vs Q E hr h => ?_)
  · obtain ⟨a, r, rfl, hS, h0, h1, hx⟩ := h
    rfl
  · obtain ⟨a, r, rfl, hS, h0, h1, hx⟩ := h
    refine ⟨_, (pss_cons (ps_for PassesOwn.never rfl (pi_enumC (c := 1) (by rfl) T.z_enumerate (pa_cons (callG (ok_new_numbers T) (hr.mono (by decide)) (by rfl) T.g_new_numbers T.F_new_numbers.kp (b_new_numbers T) .nil pass0 (pa_cons (pv 0) pa_nil)) pa_nil)) (pg_tup rfl (pgs_cons (pg_name (i := 1) sc_first_bar.nd rfl (.inl rfl)) (pgs_cons (pg_name (i := 2) sc_first_bar.nd rfl (.inl rfl)) pgs_nil)))
      (pss_cons (ps_if (pt_cmpR op_ne (pe_op op_mod (pv 2) (pv 1)) pe_int (nomark _))
        (pss_one (ps_ret (pe_tup (pa_cons (pv 1) (pa_cons pe_str pa_nil)))))
        pss_nil)
      (pss_one (ps_if (pt_cmpR op_lt (pv 2) pe_int (nomark _))
        (pss_one (ps_ret (pe_tup (pa_cons (pv 1) (pa_cons pe_str pa_nil)))))
        pss_nil))))
    (pss_one (ps_ret pe_non))), ?_⟩
    rcases hx with ⟨fr, q⟩ | ⟨lo, q⟩
    · skip
      refine q_forNEnC (c := 1) (el_call (ea_cons (ev_var rfl) ea_nil) (l_new_numbers hS h0 h1)) (fun p i σ' H' => ∃ (y1 y2 : Option V), σ' = [some (.ref a), y1, y2] ∧ Ex H H' ∧ H' p = some (.lst (vi (newL r)))) ?_ ?_ ?_ ?_
      · intro p H1 _ e1 g1
        exact ⟨_, _, rfl, e1, g1⟩
      · rintro p i σ' H' _ ⟨y1, y2, rfl, e, g⟩
        exact sq_of g
      · rintro p i x σ' H' hx ⟨y1, y2, rfl, e, g⟩ H1 e1
        have hi : i < r.length := by
          have := (List.getElem?_eq_some_iff.mp hx).1
          rw [List.length_map, newL_length] at this
          exact this
        rw [getD_at (by rw [newL_length]; exact hi)] at hx
        cases hx
        obtain ⟨d, d0, ed⟩ := fr i hi
        rw [ed]
        have hd : 0 ≤ ((i + 1 : Nat) : Int) * d := Int.mul_nonneg (by omega) d0
        have e1i : (1 : Int) + (i : Int) = ((i + 1 : Nat) : Int) := by omega
        rw [e1i]
        refine q_when (b := false) (et_is (et_test (ev_op (ev_op (ev_var rfl) (ev_var rfl) (rv_I (show (0 : Int) < ((i + 1 : Nat) : Int) by omega))) ev_c (rv_ne rfl))) (by rw [Int.mul_emod_right]; rfl)) (fun h => nomatch h) fun _ H2 e2 => ?_
        refine s_when (b := false) (et_test (ev_op (ev_var rfl) ev_c (rv_b (decide_eq_false (by omega))))) (fun h => nomatch h) fun _ H3 e3 => ?_
        exact ⟨_, _, rfl, ((e.trans e1).trans e2).trans e3, e3 _ _ (e2 _ _ (e1 _ _ g))⟩
      · rintro p σ' H' ⟨y1, y2, rfl, e, g⟩
        exact s_ret ev_c fun H1 e1 => q H1 (e.trans e1)
    refine q_forNEnC (c := 1) (el_call (ea_cons (ev_var rfl) ea_nil) (l_new_numbers hS h0 h1)) (fun p i σ' H' => ∃ (y1 y2 : Option V), σ' = [some (.ref a), y1, y2] ∧ Ex H H' ∧ i = 0 ∧ H' p = some (.lst (vi (newL r)))) ?_ ?_ ?_ ?_
    · intro p H1 _ e1 g1
      exact ⟨_, _, rfl, e1, rfl, g1⟩
    · rintro p i σ' H' _ ⟨y1, y2, rfl, e, _, g⟩
      exact sq_of g
    · rintro p i x σ' H' hx ⟨y1, y2, rfl, e, rfl, g⟩ H1 e1
      rw [getD_at (by rw [newL_length]; exact h0)] at hx
      cases hx
      have en : (newL r).getD 0 0 = r.getD 0 0 := by
        unfold newL
        rw [tab_getD h0, sub_head]
      rw [en]
      refine q_when (b := false) (et_is (et_test (ev_op (ev_op (ev_var rfl) (ev_var rfl) (rv_I (show (0 : Int) < 1 + ((0 : Nat) : Int) by decide))) ev_c (rv_ne rfl))) (by rw [show (1 : Int) + ((0 : Nat) : Int) = 1 from rfl, Int.emod_one]; rfl)) (fun h => nomatch h) fun _ H2 e2 => ?_
      refine s_when (b := true) (et_test (ev_op (ev_var rfl) ev_c (rv_b (decide_eq_true lo)))) (fun _ H3 e3 => ?_) (fun h => nomatch h)
      exact s_retU (eu_tup (ea_cons (ev_var rfl) (ea_cons ev_c ea_nil)) (by show 2 ≤ 100000; decide)) fun u H4 hu e4 g4 => q u H4 (fresh_back (((e.trans e1).trans e2).trans e3) hu) ((((e.trans e1).trans e2).trans e3).trans e4) g4
    · rintro p σ' H' ⟨y1, y2, rfl, e, hi, g⟩
      rw [List.length_map, newL_length] at hi
      omega
/-! ### told -/
def sp_told (T : Txt K mg) : Sp := fun vs H Q E => ∃ (x y : V) (o : Option Int), vs = [x, y] ∧ NV H y o ∧ ((∃ r ts, x = .ref r ∧ Rul H r ts ∧ 0 < ts.length ∧ ts.length ≤ 12 ∧ (∀ t ∈ ts, TmOk t) ∧ (∀ n : Nat, o = some (n : Int) → 1 ≤ n → n ≤ 300 → RetL (vi (ruv ts n)) H Q) ∧ (inZ o 1 300 = false → ∀ H1, Ex H H1 → E (.ref T.a_NoMany) none H1)) ∨ ∃ i, BadV K H x i ∧ ∀ H1 d, Ex H H1 → H1 d = none → E (.ref T.a_NoTerm) (some d) (upd H1 d (.xd [(("index" : Str), .int (i : Int))])))
theorem ok_told (T : Txt K mg) : FnG PP w K mg base (L2.CX PP w) 5 T.a_told T.d_told ["rule", "many"] (sp_told T) := by
  refine bodyG T.F_told sc_told (fun vs H Q E h => ?_) (fun cdv A out s H vs Q E hr h => ?_)
  · obtain ⟨x, y, o, rfl, ny, hx⟩ := h
    rfl
  · obtain ⟨x, y, o, rfl, ny, hx⟩ := h
    refine ⟨_, (pss_cons (ps_expr (callG (ok_check_rule T) (hr.mono (by decide)) (by rfl) T.g_check_rule T.F_check_rule.kp (b_check_rule T) .nil (passes_call (takes_of rfl rfl rfl rfl) fun _ _ _ _ h => h) (pa_cons (pv 0) pa_nil)))
    (pss_cons (ps_expr (callG (ok_check_many T) (hr.mono (by decide)) (by rfl) T.g_check_many T.F_check_many.kp (b_check_many T) .nil (passes_call (takes_of rfl rfl rfl rfl) fun _ _ _ _ h => h) (pa_cons (pv 1) pa_nil)))
    (pss_one (ps_ret (callG (ok_numbers T) (hr.mono (by decide)) (by rfl) T.g_numbers T.F_numbers.kp (b_numbers T) .nil pass0 (pa_cons (pv 0) (pa_cons (pv 1) pa_nil))))))), ?_⟩
    rcases hx with ⟨r, ts, rfl, hR, h0, h1, ok, q1, q2⟩ | ⟨i, hB, qE⟩
    · refine q_drop (ev_call (ea_cons (ev_var rfl) ea_nil) (v_check_rule T hR h0 h1 ok)) fun H1 e1 => ?_
      refine ⟨y, rfl, y, o, rfl, ny.ex e1, fun hb H2 e2 => ?_, fun hb H2 e2 => q2 hb H2 (e1.trans e2)⟩
      obtain ⟨n, rfl, n0, n1⟩ := in300 hb
      obtain rfl : y = .int (n : Int) := ny
      exact s_retL (el_call (ea_cons (ev_var rfl) (ea_cons (ev_var rfl) ea_nil)) (l_numbers (hR.ex (e1.trans e2)) ok (by omega))) fun l H3 h3 e3 g3 => q1 n rfl n0 n1 l H3 (fresh_back (e1.trans e2) h3) ((e1.trans e2).trans e3) g3
    · exact ⟨x, rfl, x, rfl, .inr ⟨i, hB, fun H1 d e hd => qE H1 d e hd⟩⟩
/-! ### first_bar_ever -/
def sp_first_bar_ever (T : Txt K mg) : Sp := fun vs H Q E => ∃ x : V, vs = [x] ∧ ((∃ r ts, x = .ref r ∧ Rul H r ts ∧ 0 < ts.length ∧ ts.length ≤ 12 ∧ (∀ t ∈ ts, TmOk t) ∧ ((Calm ts ∧ RetV .non H Q) ∨ ((ruv ts 24).getD 0 0 < 0 ∧ RetU [.int 1, .str "below"] H Q))) ∨ ∃ i, BadV K H x i ∧ ∀ H1 d, Ex H H1 → H1 d = none → E (.ref T.a_NoTerm) (some d) (upd H1 d (.xd [(("index" : Str), .int (i : Int))])))
theorem v_first_bar_ever (T : Txt K mg) {H : Hp} {r : Addr} {ts : List Tm} (h : Rul H r ts) (h0 : 0 < ts.length) (h1 : ts.length ≤ 12) (ok : ∀ t ∈ ts, TmOk t) (c : Calm ts) : SpV (sp_first_bar_ever T) [.ref r] H .non := fun H1 e Q q E => ⟨.ref r, rfl, .inl ⟨r, ts, rfl, h.ex e, h0, h1, ok, .inl ⟨c, q⟩⟩⟩
theorem u_first_bar_ever (T : Txt K mg) {H : Hp} {r : Addr} {ts : List Tm} (h : Rul H r ts) (h0 : 0 < ts.length) (h1 : ts.length ≤ 12) (ok : ∀ t ∈ ts, TmOk t) (c : (ruv ts 24).getD 0 0 < 0) : SpU (sp_first_bar_ever T) [.ref r] H [.int 1, .str "below"] := fun H1 e Q q E => ⟨.ref r, rfl, .inl ⟨r, ts, rfl, h.ex e, h0, h1, ok, .inr ⟨c, q⟩⟩⟩
theorem ok_first_bar_ever (T : Txt K mg) : FnG PP w K mg base (L2.CX PP w) 5 T.a_first_bar_ever T.d_first_bar_ever ["rule"] (sp_first_bar_ever T) := by
  refine bodyG T.F_first_bar_ever sc_first_bar_ever (fun vs H Q E h => ?_) (fun cdv A out s H vs Q E hr h => ?_)
  · obtain ⟨x, rfl, hx⟩ := h
    rfl
  · obtain ⟨x, rfl, hx⟩ := h
    refine ⟨_, (pss_cons (ps_expr (callG (ok_check_rule T) (hr.mono (by decide)) (by rfl) T.g_check_rule T.F_check_rule.kp (b_check_rule T) .nil (passes_call (takes_of rfl rfl rfl rfl) fun _ _ _ _ h => h) (pa_cons (pv 0) pa_nil)))
    (pss_cons (ps_set (i := 1) sc_first_bar_ever.nd rfl (.inl rfl) (pe_glob (v := .int 24) rfl T.c__NEAR ⟨_, rfl⟩))
    (pss_cons (ps_set (i := 2) sc_first_bar_ever.nd rfl (.inl rfl) (callG (ok_first_bar T) (hr.mono (by decide)) (by rfl) T.g_first_bar T.F_first_bar.kp (b_first_bar T) .nil pass0 (pa_cons (callG (ok_numbers T) (hr.mono (by decide)) (by rfl) T.g_numbers T.F_numbers.kp (b_numbers T) .nil pass0 (pa_cons (pv 0) (pa_cons (pv 1) pa_nil))) pa_nil)))
    (pss_cons (ps_while (passes_of rfl) (PW.pt (pw_and (pt_cmpR op_isN (pv 2) pe_non (nomark _)) (pw_and1 (pt_cmpR op_gt (pe_callB call_lenD (by rfl) T.z_len bt_len (pa_cons (callG (ok_counts_of T) (hr.mono (by decide)) (by rfl) T.g_counts_of T.F_counts_of.kp (b_counts_of T) .nil pass0 (pa_cons (pv 0) (pa_cons pe_str pa_nil))) pa_nil)) pe_int (nomark _)))))
      (pss_cons ps_never
      (pss_one (ps_set (i := 2) sc_first_bar_ever.nd rfl (.inl rfl) (callG (ok_first_bar T) (hr.mono (by decide)) (by rfl) T.g_first_bar T.F_first_bar.kp (b_first_bar T) .nil pass0 (pa_cons (callG (ok_numbers T) (hr.mono (by decide)) (by rfl) T.g_numbers T.F_numbers.kp (b_numbers T) .nil pass0 (pa_cons (pv 0) (pa_cons (pv 1) pa_nil))) pa_nil))))))
    (pss_cons (ps_if (pt_cmpR op_notN (pv 2) pe_non (nomark _))
      (pss_one (ps_ret (pv 2)))
      pss_nil)
    (pss_cons (ps_set (i := 3) sc_first_bar_ever.nd rfl (.inl rfl) (callG (ok_first_below T) (hr.mono (by decide)) (by rfl) T.g_first_below T.F_first_below.kp (b_first_below T) .nil pass0 (pa_cons (callG (ok_counts_of T) (hr.mono (by decide)) (by rfl) T.g_counts_of T.F_counts_of.kp (b_counts_of T) .nil pass0 (pa_cons (pv 0) (pa_cons pe_str pa_nil))) (pa_cons (callG (ok_counts_of T) (hr.mono (by decide)) (by rfl) T.g_counts_of T.F_counts_of.kp (b_counts_of T) .nil pass0 (pa_cons (pv 0) (pa_cons pe_str pa_nil))) (pa_cons (pe_op op_add (pe_glob (v := .int 24) rfl T.c__NEAR ⟨_, rfl⟩) pe_int) pa_nil)))))
    (pss_one (ps_ret (pe_ifExp (pt_cmpR op_isN (pv 3) pe_non (nomark _)) pe_non (pe_tup (pa_cons (pv 3) (pa_cons pe_str pa_nil)))))))))))), ?_⟩
    rcases hx with ⟨r, ts, rfl, hR, h0, h1, ok, ⟨cm, q⟩ | ⟨lo, q⟩⟩ | ⟨i, hB, qE⟩
    · skip
      refine q_drop (ev_call (ea_cons (ev_var rfl) ea_nil) (v_check_rule T hR h0 h1 ok)) fun H1 e1 => ?_
      refine q_asg (v := .int 24) ev_c fun H2 e2 => ?_
      have e12 := e1.trans e2
      refine q_asg (v := .non) (ev_callL (el_call (ea_cons (ev_var rfl) (ea_cons (ev_var rfl) ea_nil)) (l_numbers (n := 24) (hR.ex e12) ok (by decide))) fun p H3 e3 g3 => v_first_bar (sq_of g3) (by unfold ruv; rw [tab_length]; decide) (by unfold ruv; rw [tab_length]; decide) cm.free) fun H3 e3 => ?_
      have e13 := e12.trans e3
      refine q_while (fun m σ' H' => σ' = [some (.ref r), some (.int 24), some .non, none] ∧ Ex H H') 0 ⟨rfl, e13⟩ ?_
      rintro m σ' H' ⟨rfl, e⟩
      refine ⟨false, et_and (a := true) (b := false) (et_test (ev_op (ev_var rfl) ev_c rv_isN)) fun _ => et_test (ev_op (ev_lenDk (kvs := []) fun H4 e4 Q' q' => ⟨.ref r, rfl, r, ts, 2, rfl, hR.ex (e.trans e4), ok, by decide, h1, fun kvs dk lk => by rw [dk.none cm.pl]; exact q'⟩) ev_c (rv_b (by decide))), (fun h => nomatch h), fun _ H4 e4 => ?_⟩
      refine q_when (b := false) (et_test (ev_op (ev_var rfl) ev_c rv_notN)) (fun h => nomatch h) fun _ H5 e5 => ?_
      have e15 := e.trans (e4.trans e5)
      refine q_asg (v := .non) (fun H6 e6 Q' q' => ⟨.ref r, rfl, r, ts, 0, rfl, hR.ex (e15.trans e6), ok, by decide, h1, fun k1 d1 l1 p1 H7 f7 e7 g7 => ⟨.ref r, rfl, r, ts, 1, rfl, hR.ex ((e15.trans e6).trans e7), ok, by decide, h1, fun k2 d2 l2 p2 H8 f8 e8 g8 => ?_⟩⟩) fun H6 e6 => ?_
      · exact ⟨_, _, rfl, rfl, p1, p2, 25, k1, k2, rfl, e8 _ _ g7, g8, d1.posB cm l1, d2.posR cm l2, fun H9 e9 => q' H9 ((e7.trans e8).trans e9)⟩
      exact s_ret (v := .non) (ev_if (b := true) (et_test (ev_op (ev_var rfl) ev_c rv_isN)) (fun _ => ev_c) (fun h => nomatch h)) fun H7 e7 => q H7 (e15.trans (e6.trans e7))
    · refine q_drop (ev_call (ea_cons (ev_var rfl) ea_nil) (v_check_rule T hR h0 h1 ok)) fun H1 e1 => ?_
      refine q_asg (v := .int 24) ev_c fun H2 e2 => ?_
      have e12 := e1.trans e2
      refine q_asgU (eu_callL (el_call (ea_cons (ev_var rfl) (ea_cons (ev_var rfl) ea_nil)) (l_numbers (n := 24) (hR.ex e12) ok (by decide))) fun p H3 e3 g3 => u_first_bar (sq_of g3) (by unfold ruv; rw [tab_length]; decide) (by unfold ruv; rw [tab_length]; decide) lo) fun pu H3 f3 e3 g3 => ?_
      have e13 := e12.trans e3
      refine q_while (fun m σ' H' => σ' = [some (.ref r), some (.int 24), some (.ref pu), none] ∧ Ex H3 H') 0 ⟨rfl, Ex.refl _⟩ ?_
      rintro m σ' H' ⟨rfl, e⟩
      refine ⟨false, et_and (a := false) (b := false) (et_is (et_test (ev_op (ev_var rfl) ev_c rv_isN)) (decide_eq_false fun z => nomatch z)) (fun h => nomatch h), (fun h => nomatch h), fun _ H4 e4 => ?_⟩
      refine q_when (b := true) (et_is (et_test (ev_op (ev_var rfl) ev_c rv_notN)) (by simp)) (fun _ H5 e5 => ?_) (fun h => nomatch h)
      exact s_ret (ev_var rfl) fun H6 e6 => q pu H6 (fresh_back e12 f3) (e13.trans (((e.trans e4).trans e5).trans e6)) ((((e.trans e4).trans e5).trans e6) _ _ g3)
    · exact ⟨x, rfl, x, rfl, .inr ⟨i, hB, fun H1 d e hd => qE H1 d e hd⟩⟩
/-! ### is_turn_rule -/
def sp_is_turn_rule (T : Txt K mg) : Sp := fun vs H Q E => ∃ x : V, vs = [x] ∧ ((∃ r ts, x = .ref r ∧ Rul H r ts ∧ 0 < ts.length ∧ ts.length ≤ 12 ∧ (∀ t ∈ ts, TmOk t) ∧ Calm ts ∧ RetV (.bl true) H Q) ∨ ∃ i, BadV K H x i ∧ ∀ H1 d, Ex H H1 → H1 d = none → E (.ref T.a_NoTerm) (some d) (upd H1 d (.xd [(("index" : Str), .int (i : Int))])))
theorem ok_is_turn_rule (T : Txt K mg) : FnG PP w K mg base (L2.CX PP w) 6 T.a_is_turn_rule T.d_is_turn_rule ["rule"] (sp_is_turn_rule T) := by
  refine bodyG T.F_is_turn_rule sc_is_turn_rule (fun vs H Q E h => ?_) (fun cdv A out s H vs Q E hr h => ?_)
  · obtain ⟨x, rfl, hx⟩ := h
    rfl
  · obtain ⟨x, rfl, hx⟩ := h
    refine ⟨_, (pss_one (ps_ret (pe_cmpR op_isN (callG (ok_first_bar_ever T) (hr.mono (by decide)) (by rfl) T.g_first_bar_ever T.F_first_bar_ever.kp (b_first_bar_ever T) .nil (passes_call (takes_of rfl rfl rfl rfl) fun _ _ _ _ h => h) (pa_cons (pv 0) pa_nil)) pe_non (nomark _)))), ?_⟩
    rcases hx with ⟨r, ts, rfl, hR, h0, h1, ok, cm, q⟩ | ⟨i, hB, qE⟩
    · exact s_ret (ev_is (ev_op (ev_call (ea_cons (ev_var rfl) ea_nil) (v_first_bar_ever T hR h0 h1 ok cm)) ev_c rv_isN) (by simp)) fun H1 e1 => q H1 e1
    · exact ⟨x, rfl, x, rfl, .inr ⟨i, hB, fun H1 d e hd => qE H1 d e hd⟩⟩
/-! ### rings_of -/
def sp_rings_of (T : Txt K mg) : Sp := fun vs H Q E => ∃ (x y : V) (o : Option Int), vs = [x, y] ∧ NV H y o ∧ ((∃ r ts, x = .ref r ∧ Rul H r ts ∧ 0 < ts.length ∧ ts.length ≤ 12 ∧ (∀ t ∈ ts, TmOk t) ∧ (inZ o 1 300 = false → ∀ H1, Ex H H1 → E (.ref T.a_NoNumber) none H1) ∧
  (∀ n : Nat, o = some (n : Int) → 1 ≤ n → n ≤ 300 → (Calm ts ∧ ∀ (z : Int) H1, Ex H H1 → Q (.int z) H1) ∨ ((ruv ts 24).getD 0 0 < 0 ∧ ∀ H1 d, Ex H H1 → H1 d = none → E (.ref T.a_Barred) (some d) (upd H1 d (.xd [(("n" : Str), .int 1)])))) ) ∨ ∃ i, BadV K H x i ∧ ∀ H1 d, Ex H H1 → H1 d = none → E (.ref T.a_NoTerm) (some d) (upd H1 d (.xd [(("index" : Str), .int (i : Int))])))
theorem ok_rings_of (T : Txt K mg) : FnG PP w K mg base (L2.CX PP w) 6 T.a_rings_of T.d_rings_of ["rule", "number"] (sp_rings_of T) := by
  refine bodyG T.F_rings_of sc_rings_of (fun vs H Q E h => ?_) (fun cdv A out s H vs Q E hr h => ?_)
  · obtain ⟨x, y, o, rfl, ny, hx⟩ := h
    rfl
  · obtain ⟨x, y, o, rfl, ny, hx⟩ := h
    refine ⟨_, (pss_cons (ps_expr (callG (ok_check_rule T) (hr.mono (by decide)) (by rfl) T.g_check_rule T.F_check_rule.kp (b_check_rule T) .nil (passes_call (takes_of rfl rfl rfl rfl) fun _ _ _ _ h => h) (pa_cons (pv 0) pa_nil)))
    (pss_cons (ps_expr (callG (ok_check_number T) (hr.mono (by decide)) (by rfl) T.g_check_number T.F_check_number.kp (b_check_number T) .nil (passes_call (takes_of rfl rfl rfl rfl) fun _ _ _ _ h => h) (pa_cons (pv 1) pa_nil)))
    (pss_cons (ps_set (i := 2) sc_rings_of.nd rfl (.inl rfl) (callG (ok_first_bar_ever T) (hr.mono (by decide)) (by rfl) T.g_first_bar_ever T.F_first_bar_ever.kp (b_first_bar_ever T) .nil (passes_call (takes_of rfl rfl rfl rfl) fun _ _ _ _ h => h) (pa_cons (pv 0) pa_nil)))
    (pss_cons (ps_if (pt_cmpR op_notN (pv 2) pe_non (nomark _))
      (pss_one (ps_raise rfl (takes_of rfl rfl rfl rfl) (pmk_sup T.s_Barred T.sb_Barred (hr.rm.mono (by decide)) rfl T.e_Barred.g (pa_cons (pe_ix (ix_tupK (K := K) rfl) (pv 2) pe_int (fun _ _ => rfl)) pa_nil))))
      pss_nil)
    (pss_one (ps_ret (pe_op op_fdivW (callG (ok_new_number T) (hr.mono (by decide)) (by rfl) T.g_new_number T.F_new_number.kp (b_new_number T) .nil pass0 (pa_cons (callG (ok_counts_of T) (hr.mono (by decide)) (by rfl) T.g_counts_of T.F_counts_of.kp (b_counts_of T) .nil pass0 (pa_cons (pv 0) (pa_cons pe_str pa_nil))) (pa_cons (callG (ok_counts_of T) (hr.mono (by decide)) (by rfl) T.g_counts_of T.F_counts_of.kp (b_counts_of T) .nil pass0 (pa_cons (pv 0) (pa_cons pe_str pa_nil))) (pa_cons (pv 1) pa_nil)))) (pv 1)))))))), ?_⟩
    rcases hx with ⟨r, ts, rfl, hR, h0, h1, ok, q1, q2⟩ | ⟨i, hB, qE⟩
    · refine q_drop (ev_call (ea_cons (ev_var rfl) ea_nil) (v_check_rule T hR h0 h1 ok)) fun H1 e1 => ?_
      refine ⟨y, rfl, y, o, rfl, ny.ex e1, fun hb H2 e2 => ?_, fun hb H2 e2 => q1 hb H2 (e1.trans e2)⟩
      obtain ⟨n, rfl, n0, n1⟩ := in300 hb
      obtain rfl : y = .int (n : Int) := ny
      have e12 := e1.trans e2
      rcases q2 n rfl n0 n1 with ⟨cm, q⟩ | ⟨lo, q⟩
      · refine q_asg (v := .non) (ev_call (ea_cons (ev_var rfl) ea_nil) (v_first_bar_ever T (hR.ex e12) h0 h1 ok cm)) fun H3 e3 => ?_
        refine q_when (b := false) (et_test (ev_op (ev_var rfl) ev_c rv_notN)) (fun h => nomatch h) fun _ H4 e4 => ?_
        have e14 := e12.trans (e3.trans e4)
        refine ⟨.ref r, rfl, r, ts, 0, rfl, hR.ex e14, ok, by decide, h1, fun k1 d1 l1 p1 H7 f7 e7 g7 => ⟨.ref r, rfl, r, ts, 1, rfl, hR.ex (e14.trans e7), ok, by decide, h1, fun k2 d2 l2 p2 H8 f8 e8 g8 => ?_⟩⟩
        exact ⟨.int n, rfl, p1, p2, k1, k2, n, rfl, e8 _ _ g7, g8, d1.posN ok h1 cm l1, d2.valI, l2, n0, n1, fun H9 e9 => ⟨.int n, rfl, rv_I (cdw _ (by omega) (by omega)) H9 (Ex.refl _) _ fun H10 e10 => q _ H10 (e14.trans (((e7.trans e8).trans e9).trans e10))⟩⟩
      · refine q_asgU (eu_call (ea_cons (ev_var rfl) ea_nil) (u_first_bar_ever T (hR.ex e12) h0 h1 ok lo)) fun pu H3 f3 e3 g3 => ?_
        refine q_when (b := true) (et_is (et_test (ev_op (ev_var rfl) ev_c rv_notN)) (by simp)) (fun _ H4 e4 => ?_) (fun h => nomatch h)
        exact mk_ev (ev_op (ev_var rfl) ev_c (rv_ixT (st_of (e4 _ _ g3)) rfl)) fun H5 d e5 hd => q H5 d (e12.trans ((e3.trans e4).trans e5)) hd
    · exact ⟨x, rfl, x, rfl, .inr ⟨i, hB, fun H1 d e hd => qE H1 d e hd⟩⟩
/-! ### _law_call -/
theorem BadV.ex {K : PySem.W.Frag} {H H' : Hp} {x : V} {i : Nat} (h : BadV K H x i) (e : Ex H H') : BadV K H' x i := by
  rcases h with ⟨rfl, h | ⟨r, rfl, g⟩⟩ | ⟨r, xs, rfl, g, h1, h2, h3, h4⟩
  · exact .inl ⟨rfl, .inl (h.ex e)⟩
  · exact .inl ⟨rfl, .inr ⟨r, rfl, e _ _ g⟩⟩
  · refine .inr ⟨r, xs, rfl, e _ _ g, h1, h2, fun k v a b => ⟨(h3 k v a b).1, (h3 k v a b).2.ex e⟩, ?_⟩
    rcases h4 with h4 | ⟨v, a, b⟩
    · exact .inl h4
    · exact .inr ⟨v, a, b.ex e⟩
def sp_law_call (T : Txt K mg) : Sp := fun vs H Q E => ∃ (w : Nat) (x y : V) (o : Option Int), vs = [.int (w : Int), x, y] ∧ w < 4 ∧ NV H y o ∧ ((∃ i, BadV K H x i ∧ ∀ H1 d, Ex H H1 → H1 d = none → E (.ref T.a_NoTerm) (some d) (upd H1 d (.xd [(("index" : Str), .int (i : Int))]))) ∨
  (∃ r ts, x = .ref r ∧ Rul H r ts ∧ 0 < ts.length ∧ ts.length ≤ 12 ∧ (∀ t ∈ ts, TmOk t) ∧ (w < 2 → Calm ts ∧ ∀ v H2, Ex H H2 → Q v H2) ∧
    (w = 2 → (∀ n : Nat, o = some (n : Int) → 1 ≤ n → n ≤ 300 → ∀ v H2, Ex H H2 → Q v H2) ∧ (inZ o 1 300 = false → ∀ H1, Ex H H1 → E (.ref T.a_NoMany) none H1)) ∧
    (w = 3 → (inZ o 1 300 = false → ∀ H1, Ex H H1 → E (.ref T.a_NoNumber) none H1) ∧ (∀ n : Nat, o = some (n : Int) → 1 ≤ n → n ≤ 300 → (Calm ts ∧ ∀ (z : Int) H1, Ex H H1 → Q (.int z) H1) ∨ ((ruv ts 24).getD 0 0 < 0 ∧ ∀ H1 d, Ex H H1 → H1 d = none → E (.ref T.a_Barred) (some d) (upd H1 d (.xd [(("n" : Str), .int 1)])))))))
theorem ok_law_call (T : Txt K mg) : FnG PP w K mg base (L2.CX PP w) 7 T.a_law_call T.d_law_call ["way", "rule", "number_of"] (sp_law_call T) := by
  refine bodyG T.F_law_call sc_law_call (fun vs H Q E h => ?_) (fun cdv A out s H vs Q E hr h => ?_)
  · obtain ⟨w, x, y, o, rfl, hw, ny, hx⟩ := h
    rfl
  · obtain ⟨w, x, y, o, rfl, hw, ny, hx⟩ := h
    refine ⟨_, (pss_cons (ps_if (pt_cmpR op_lt (pv 0) pe_int (nomark _))
      (pss_one (ps_ret (pe_callE (pe_ix (ix_listK (K := K) rfl) (pe_lst (pa_cons (pe_glob (v := .ref T.a_first_bar_ever) rfl T.g_first_bar_ever rfl) (pa_cons (pe_glob (v := .ref T.a_is_turn_rule) rfl T.g_is_turn_rule rfl) pa_nil))) (pv 0) (fun _ _ => rfl)) (runs_cons (runF (ok_first_bar_ever T) (hr.mono (by decide)) T.F_first_bar_ever.kp (b_first_bar_ever T) (passes_call (takes_of rfl rfl rfl rfl) fun _ _ _ _ h => h)) (runs_cons (runF (ok_is_turn_rule T) (hr.mono (by decide)) T.F_is_turn_rule.kp (b_is_turn_rule T) (passes_call (takes_of rfl rfl rfl rfl) fun _ _ _ _ h => h)) runs_nil)) (pa_cons (pv 1) pa_nil))))
      pss_nil)
    (pss_one (ps_ret (pe_callE (pe_ix (ix_listK (K := K) rfl) (pe_lst (pa_cons (pe_glob (v := .ref T.a_told) rfl T.g_told rfl) (pa_cons (pe_glob (v := .ref T.a_rings_of) rfl T.g_rings_of rfl) pa_nil))) (pe_op op_sub (pv 0) pe_int) (fun _ _ => rfl)) (runs_cons (runF (ok_told T) (hr.mono (by decide)) T.F_told.kp (b_told T) (passes_call (takes_of rfl rfl rfl rfl) fun _ _ _ _ h => h)) (runs_cons (runF (ok_rings_of T) (hr.mono (by decide)) T.F_rings_of.kp (b_rings_of T) (passes_call (takes_of rfl rfl rfl rfl) fun _ _ _ _ h => h)) runs_nil)) (pa_cons (pv 1) (pa_cons (pv 2) pa_nil)))))), ?_⟩
    have pick : ∀ {a b : Addr} {ti : TE} {σ : L2.St} {H1 : Hp} {i : Nat} {v : V}, Ev ti σ H1 (.int (i : Int)) → [V.ref a, V.ref b][i]? = some v → Ev (tOp (rIxL K) (tLst (tCons (tC (.ref a)) (tCons (tC (.ref b)) tNil))) ti) σ H1 v := fun h1 h2 => ev_ixN (el_lst (ea_cons ev_c (ea_cons ev_c ea_nil)) (by show 2 ≤ 100000; decide)) h1 (atI_nat h2)
    rcases hx with ⟨i, hB, qE⟩ | ⟨r, ts, rfl, hR, h0, h1, ok, q1, q2, q3⟩
    · have run : ∀ H1, Ex H H1 → (∃ i, BadV K H1 x i ∧ ∀ H2 d, Ex H1 H2 → H2 d = none → E (.ref T.a_NoTerm) (some d) (upd H2 d (.xd [(("index" : Str), .int (i : Int))]))) := fun H1 e => ⟨i, BadV.ex hB e, fun H2 d e2 hd => qE H2 d (e.trans e2) hd⟩
      match w, hw with
      | 0, _ =>
        refine q_when (b := true) (et_is (et_test (ev_op (ev_var rfl) ev_c (rv_b rfl))) rfl) (fun _ H1 e1 => ?_) (fun h => nomatch h)
        exact callE (f := T.a_first_bar_ever) (sp := sp_first_bar_ever T) (vs := [x]) (pick (ev_var rfl) rfl) (by simp) (fun H2 e2 => ea_cons (ev_var rfl) ea_nil) fun H2 e2 => ⟨x, rfl, .inr (run H2 (e1.trans e2))⟩
      | 1, _ =>
        refine q_when (b := true) (et_is (et_test (ev_op (ev_var rfl) ev_c (rv_b rfl))) rfl) (fun _ H1 e1 => ?_) (fun h => nomatch h)
        exact callE (f := T.a_is_turn_rule) (sp := sp_is_turn_rule T) (vs := [x]) (pick (ev_var rfl) rfl) (by simp) (fun H2 e2 => ea_cons (ev_var rfl) ea_nil) fun H2 e2 => ⟨x, rfl, .inr (run H2 (e1.trans e2))⟩
      | 2, _ =>
        refine q_when (b := false) (et_is (et_test (ev_op (ev_var rfl) ev_c (rv_b rfl))) rfl) (fun h => nomatch h) fun _ H1 e1 => ?_
        exact callE (f := T.a_told) (sp := sp_told T) (vs := [x, y]) (pick (i := 0) (ev_op (ev_var rfl) ev_c rv_I0) rfl) (by simp) (fun H2 e2 => ea_cons (ev_var rfl) (ea_cons (ev_var rfl) ea_nil)) fun H2 e2 => ⟨x, y, o, rfl, ny.ex (e1.trans e2), .inr (run H2 (e1.trans e2))⟩
      | 3, _ =>
        refine q_when (b := false) (et_is (et_test (ev_op (ev_var rfl) ev_c (rv_b rfl))) rfl) (fun h => nomatch h) fun _ H1 e1 => ?_
        exact callE (f := T.a_rings_of) (sp := sp_rings_of T) (vs := [x, y]) (pick (i := 1) (ev_op (ev_var rfl) ev_c rv_I0) rfl) (by simp) (fun H2 e2 => ea_cons (ev_var rfl) (ea_cons (ev_var rfl) ea_nil)) fun H2 e2 => ⟨x, y, o, rfl, ny.ex (e1.trans e2), .inr (run H2 (e1.trans e2))⟩
      | w + 4, h => omega
    · match w, hw with
      | 0, _ =>
        obtain ⟨cm, q⟩ := q1 (by decide)
        refine q_when (b := true) (et_is (et_test (ev_op (ev_var rfl) ev_c (rv_b rfl))) rfl) (fun _ H1 e1 => ?_) (fun h => nomatch h)
        exact callE (f := T.a_first_bar_ever) (sp := sp_first_bar_ever T) (vs := [.ref r]) (pick (ev_var rfl) rfl) (by simp) (fun H2 e2 => ea_cons (ev_var rfl) ea_nil) fun H2 e2 => ⟨_, rfl, .inl ⟨r, ts, rfl, hR.ex (e1.trans e2), h0, h1, ok, .inl ⟨cm, fun H3 e3 => q _ H3 ((e1.trans e2).trans e3)⟩⟩⟩
      | 1, _ =>
        obtain ⟨cm, q⟩ := q1 (by decide)
        refine q_when (b := true) (et_is (et_test (ev_op (ev_var rfl) ev_c (rv_b rfl))) rfl) (fun _ H1 e1 => ?_) (fun h => nomatch h)
        exact callE (f := T.a_is_turn_rule) (sp := sp_is_turn_rule T) (vs := [.ref r]) (pick (ev_var rfl) rfl) (by simp) (fun H2 e2 => ea_cons (ev_var rfl) ea_nil) fun H2 e2 => ⟨_, rfl, .inl ⟨r, ts, rfl, hR.ex (e1.trans e2), h0, h1, ok, cm, fun H3 e3 => q _ H3 ((e1.trans e2).trans e3)⟩⟩
      | 2, _ =>
        obtain ⟨qa, qb⟩ := q2 rfl
        refine q_when (b := false) (et_is (et_test (ev_op (ev_var rfl) ev_c (rv_b rfl))) rfl) (fun h => nomatch h) fun _ H1 e1 => ?_
        exact callE (f := T.a_told) (sp := sp_told T) (vs := [.ref r, y]) (pick (i := 0) (ev_op (ev_var rfl) ev_c rv_I0) rfl) (by simp) (fun H2 e2 => ea_cons (ev_var rfl) (ea_cons (ev_var rfl) ea_nil)) fun H2 e2 => ⟨_, y, o, rfl, ny.ex (e1.trans e2), .inl ⟨r, ts, rfl, hR.ex (e1.trans e2), h0, h1, ok, fun n en n0 n1 p H3 _ e3 _ => qa n en n0 n1 _ H3 ((e1.trans e2).trans e3), fun hb H3 e3 => qb hb H3 ((e1.trans e2).trans e3)⟩⟩
      | 3, _ =>
        obtain ⟨qa, qb⟩ := q3 rfl
        refine q_when (b := false) (et_is (et_test (ev_op (ev_var rfl) ev_c (rv_b rfl))) rfl) (fun h => nomatch h) fun _ H1 e1 => ?_
        refine callE (f := T.a_rings_of) (sp := sp_rings_of T) (vs := [.ref r, y]) (pick (i := 1) (ev_op (ev_var rfl) ev_c rv_I0) rfl) (by simp) (fun H2 e2 => ea_cons (ev_var rfl) (ea_cons (ev_var rfl) ea_nil)) fun H2 e2 => ⟨_, y, o, rfl, ny.ex (e1.trans e2), .inl ⟨r, ts, rfl, hR.ex (e1.trans e2), h0, h1, ok, fun hb H3 e3 => qa hb H3 ((e1.trans e2).trans e3), fun n en n0 n1 => ?_⟩⟩
        rcases qb n en n0 n1 with ⟨cm, q⟩ | ⟨lo, q⟩
        · exact .inl ⟨cm, fun z H3 e3 => q z H3 ((e1.trans e2).trans e3)⟩
        · exact .inr ⟨lo, fun H3 d e3 hd => q H3 d ((e1.trans e2).trans e3) hd⟩
      | w + 4, h => omega
/-! ### _law_word -/
def WordF (K : PySem.W.Frag) (H : Hp) (w : Nat) (x : V) (o : Option Int) (t : List Nat) : Prop :=
  (∃ i, i ≤ 5000 ∧ BadV K H x i ∧ t = termT i) ∨
  (∃ r ts, x = .ref r ∧ Rul H r ts ∧ 0 < ts.length ∧ ts.length ≤ 12 ∧ (∀ t ∈ ts, TmOk t) ∧
    ((w < 2 ∧ Calm ts ∧ t = []) ∨ (w = 2 ∧ inZ o 1 300 = true ∧ t = []) ∨ (w = 2 ∧ inZ o 1 300 = false ∧ t = manyT) ∨ (w = 3 ∧ inZ o 1 300 = false ∧ t = numbT) ∨
      (w = 3 ∧ inZ o 1 300 = true ∧ Calm ts ∧ t = []) ∨ (w = 3 ∧ inZ o 1 300 = true ∧ (ruv ts 24).getD 0 0 < 0 ∧ t = barT1)))
theorem WordF.ex {H H' : Hp} {w : Nat} {x : V} {o : Option Int} {t : List Nat} (h : WordF K H w x o t) (e : Ex H H') : WordF K H' w x o t := by
  rcases h with ⟨i, h0, h, h1⟩ | ⟨r, ts, h0, h1, h2⟩
  · exact .inl ⟨i, h0, BadV.ex h e, h1⟩
  · exact .inr ⟨r, ts, h0, h1.ex e, h2⟩
def sp_law_word (K : PySem.W.Frag) : Sp := fun vs H Q _ => ∃ (w : Nat) (x y : V) (o : Option Int) (t : List Nat), vs = [.int (w : Int), x, y] ∧ w < 4 ∧ NV H y o ∧ WordF K H w x o t ∧ RetV (.str (S t)) H Q
theorem v_word {H : Hp} {w : Nat} {x y : V} {o : Option Int} {t : List Nat} (hw : w < 4) (ny : NV H y o) (h : WordF K H w x o t) : SpV (sp_law_word K) [.int (w : Int), x, y] H (.str (S t)) := fun H1 e Q q E => ⟨w, x, y, o, t, rfl, hw, ny.ex e, h.ex e, q⟩
theorem ok_law_word (T : Txt K mg) : FnG PP w K mg base CX0 8 T.a_law_word T.d_law_word ["way", "rule", "number_of"] (sp_law_word K) := by
  refine okG T.F_law_word sc_law_word (fun vs H Q E h => ?_) (fun cdv A out s H vs Q E hr h => ?_)
  · obtain ⟨w, x, y, o, t, rfl, hw, ny, hf, q⟩ := h
    rfl
  · obtain ⟨w, x, y, o, t, rfl, hw, ny, hf, q⟩ := h
    refine ⟨_, (pss_cons (ps_set (i := 3) sc_law_word.nd rfl (.inl rfl) pe_str)
    (pss_cons (ps_try_keptM (Wout := fun _ _ _ _ => False) rfl rfl rfl sc_law_word.nd takes0
      (fun W pn xe tk _ => (pss_one (ps_expr (callGS (ok_law_call T) (hr.mono (by decide)) (by rfl) T.g_law_call T.F_law_call.kp (b_law_call T) (fun σ => passAt tk σ) (pa_cons (pv 0) (pa_cons (pv 1) (pa_cons (pv 2) pa_nil)))))))
      (.named (i := 4) (c := .ref T.a_NoTerm) ⟨rfl, by decide, (.inl T.e_NoTerm.g)⟩ rfl rfl (fun a pn => (pss_one (ps_set (i := 3) sc_law_word.nd rfl (.inl rfl) (pe_ifExp (PW.pt (pw_and (pt_val (pe_callB (call_isX (K := K) rfl) (by rfl) T.z_isinstance bt_isinstance (pa_cons (pv 4) (pa_cons (pe_glob (v := .ref T.a_RowError) rfl T.e_RowError.g rfl) pa_nil)))) (pw_and1 (pt_not (pt_val (pe_callB (call_isX (K := K) rfl) (by rfl) T.z_isinstance bt_isinstance (pa_cons (pv 4) (pa_cons (pe_glob (v := .ref T.a_NoMany) rfl T.e_NoMany.g rfl) pa_nil)))))))) (pe_op op_add_str pe_str (pe_callB SkE.call_repr_int (by rfl) T.z_repr bt_repr (pa_cons (pe_xk (K := K) rfl (pv 4)) pa_nil))) pe_str)))) (.bare (c := .ref T.a_NoMany) ⟨rfl, by decide, (.inl T.e_NoMany.g)⟩ (fun a pn => (pss_one (ps_set (i := 3) sc_law_word.nd rfl (.inl rfl) pe_str))) (.bare (c := .ref T.a_NoNumber) ⟨rfl, by decide, (.inl T.e_NoNumber.g)⟩ (fun a pn => (pss_one (ps_set (i := 3) sc_law_word.nd rfl (.inl rfl) pe_str))) (.named (i := 4) (c := .ref T.a_Barred) ⟨rfl, by decide, (.inl T.e_Barred.g)⟩ rfl rfl (fun a pn => (pss_one (ps_set (i := 3) sc_law_word.nd rfl (.inl rfl) (pe_op op_add_str pe_str (pe_callB SkE.call_repr_int (by rfl) T.z_repr bt_repr (pa_cons (pe_xk (K := K) rfl (pv 4)) pa_nil)))))) .nil)))))
    (pss_one (ps_ret (pv 3))))), ?_⟩
    refine q_asg ev_c fun H0 e0 => ?_
    replace hf := hf.ex e0
    replace ny := ny.ex e0
    rcases hf with ⟨i, hi, hB, rfl⟩ | ⟨r, ts, rfl, hR, h0, h1, ok, hc⟩
    · refine s_callS (ea_cons (ev_var rfl) (ea_cons (ev_var rfl) (ea_cons (ev_var rfl) ea_nil))) fun H2 e2 => ⟨w, x, y, o, rfl, hw, ny.ex e2, .inl ⟨i, BadV.ex hB e2, fun H3 d e3 hd => ⟨true, T.e_NoTerm.exm T.e_NoTerm.s, fun _ a' ha' => ?_, fun h => nomatch h⟩⟩⟩
      have ga : upd (upd H3 d (.xd [(("index" : Str), .int (i : Int))])) a' (ExK (.ref T.a_NoTerm) (some d) a') a' = some (ExK (.ref T.a_NoTerm) (some d) a') := upd_same
      have nd : d ≠ a' := fun z => by
        rw [← z, upd_same] at ha'
        cases ha'
      have gd : upd (upd H3 d (.xd [(("index" : Str), .int (i : Int))])) a' (ExK (.ref T.a_NoTerm) (some d) a') d = some (.xd [(("index" : Str), .int (i : Int))]) := by
        rw [upd_ne nd, upd_same]
      have eE : Ex H (upd (upd H3 d (.xd [(("index" : Str), .int (i : Int))])) a' (ExK (.ref T.a_NoTerm) (some d) a')) := (((e0.trans e2).trans e3).trans (Ex.new hd)).trans (Ex.new ha')
      generalize upd (upd H3 d (.xd [(("index" : Str), .int (i : Int))])) a' (ExK (.ref T.a_NoTerm) (some d) a') = H4 at *
      refine s_asg (v := .str (S (termT i))) (ev_if (b := true) (et_and (a := true) (b := true) (et_B (ev_isK (ev_var rfl) (fun _ => ev_c) (.own _) (ga) (dct_some (gd)) T.e_NoTerm.ex (T.e_RowError.kit T.m_NoTerm_RowError))) fun _ => et_not (a := false) (et_B (ev_isK (ev_var rfl) (fun _ => ev_c) (.own _) (ga) (dct_some (gd)) T.e_NoTerm.ex (T.e_NoMany.kit T.m_NoTerm_NoMany)))) (fun _ => ev_addT (a := [116, 101, 114, 109]) ev_c (ev_is (ev_reprI (ev_xk (ev_var rfl) ga gd T.e_NoTerm.ex T.s_NoTerm.nf rfl) (lg1920 hi)) (congrArg V.str (str_num _))) (by have := nlen hi; show 4 + _ ≤ _; omega)) (fun h => nomatch h)) fun H5 e5 => ?_
      exact s_ret (ev_var rfl) fun H6 e6 => q H6 (eE.trans (e5.trans e6))
    · have go : ∀ {Q' : VK} {E' : XK}, (∀ H2, Ex H0 H2 → ((w < 2 → Calm ts ∧ ∀ v H3, Ex H2 H3 → Q' v H3) ∧
        (w = 2 → (∀ n : Nat, o = some (n : Int) → 1 ≤ n → n ≤ 300 → ∀ v H3, Ex H2 H3 → Q' v H3) ∧ (inZ o 1 300 = false → ∀ H1, Ex H2 H1 → E' (.ref T.a_NoMany) none H1)) ∧
        (w = 3 → (inZ o 1 300 = false → ∀ H1, Ex H2 H1 → E' (.ref T.a_NoNumber) none H1) ∧ (∀ n : Nat, o = some (n : Int) → 1 ≤ n → n ≤ 300 → (Calm ts ∧ ∀ (z : Int) H1, Ex H2 H1 → Q' (.int z) H1) ∨ ((ruv ts 24).getD 0 0 < 0 ∧ ∀ H1 d, Ex H2 H1 → H1 d = none → E' (.ref T.a_Barred) (some d) (upd H1 d (.xd [(("n" : Str), .int 1)]))))))) →
        ∀ H2, Ex H0 H2 → sp_law_call T ([.int (w : Int), .ref r, y] ++ []) H2 Q' E' := fun {Q' E'} h H2 e2 => ⟨w, .ref r, y, o, rfl, hw, ny.ex e2, .inr ⟨r, ts, rfl, hR.ex e2, h0, h1, ok, (h H2 e2).1, (h H2 e2).2.1, (h H2 e2).2.2⟩⟩
      have notin : ∀ n : Nat, inZ o 1 300 = false → o = some (n : Int) → 1 ≤ n → n ≤ 300 → False := fun n hb e a b => by
        rw [e, in300_of a b] at hb
        cases hb
      have isin : inZ o 1 300 = true → inZ o 1 300 = false → False := fun a b => by
        rw [a] at b
        cases b
      rcases hc with ⟨w2, cm, rfl⟩ | ⟨rfl, hb, rfl⟩ | ⟨rfl, hb, rfl⟩ | ⟨rfl, hb, rfl⟩ | ⟨rfl, hb, cm, rfl⟩ | ⟨rfl, hb, lo, rfl⟩
      · refine s_callS (ea_cons (ev_var rfl) (ea_cons (ev_var rfl) (ea_cons (ev_var rfl) ea_nil))) (go fun H2 e2 => ⟨fun _ => ⟨cm, fun v H3 e3 => ?_⟩, fun h => absurd h (by omega), fun h => absurd h (by omega)⟩)
        exact s_ret (ev_var rfl) fun H6 e6 => q H6 (e0.trans ((e2.trans e3).trans e6))
      · refine s_callS (ea_cons (ev_var rfl) (ea_cons (ev_var rfl) (ea_cons (ev_var rfl) ea_nil))) (go fun H2 e2 => ⟨fun h => absurd h (by omega), fun _ => ⟨fun n _ _ _ v H3 e3 => ?_, fun z => (isin hb z).elim⟩, fun h => absurd h (by omega)⟩)
        exact s_ret (ev_var rfl) fun H6 e6 => q H6 (e0.trans ((e2.trans e3).trans e6))
      · refine s_callS (ea_cons (ev_var rfl) (ea_cons (ev_var rfl) (ea_cons (ev_var rfl) ea_nil))) (go fun H2 e2 => ⟨fun h => absurd h (by omega), fun _ => ⟨fun n e a b => (notin n hb e a b).elim, fun _ H3 e3 => ⟨false, T.e_NoTerm.exm T.m_NoMany_NoTerm, (fun h => nomatch h), fun _ => ⟨true, T.e_NoMany.exm T.e_NoMany.s, fun _ => ?_, fun h => nomatch h⟩⟩⟩, fun h => absurd h (by omega)⟩)
        exact s_asg (v := .str (S manyT)) ev_c fun H5 e5 => s_ret (ev_var rfl) fun H6 e6 => q H6 (e0.trans ((e2.trans e3).trans (e5.trans e6)))
      · refine s_callS (ea_cons (ev_var rfl) (ea_cons (ev_var rfl) (ea_cons (ev_var rfl) ea_nil))) (go fun H2 e2 => ⟨fun h => absurd h (by omega), fun h => absurd h (by omega), fun _ => ⟨fun _ H3 e3 => ⟨false, T.e_NoTerm.exm T.m_NoNumber_NoTerm, (fun h => nomatch h), fun _ => ⟨false, T.e_NoMany.exm T.m_NoNumber_NoMany, (fun h => nomatch h), fun _ => ⟨true, T.e_NoNumber.exm T.e_NoNumber.s, fun _ => ?_, fun h => nomatch h⟩⟩⟩, fun n e a b => (notin n hb e a b).elim⟩⟩)
        exact s_asg (v := .str (S numbT)) ev_c fun H5 e5 => s_ret (ev_var rfl) fun H6 e6 => q H6 (e0.trans ((e2.trans e3).trans (e5.trans e6)))
      · refine s_callS (ea_cons (ev_var rfl) (ea_cons (ev_var rfl) (ea_cons (ev_var rfl) ea_nil))) (go fun H2 e2 => ⟨fun h => absurd h (by omega), fun h => absurd h (by omega), fun _ => ⟨fun z => (isin hb z).elim, fun n _ _ _ => .inl ⟨cm, fun z H3 e3 => ?_⟩⟩⟩)
        exact s_ret (ev_var rfl) fun H6 e6 => q H6 (e0.trans ((e2.trans e3).trans e6))
      · refine s_callS (ea_cons (ev_var rfl) (ea_cons (ev_var rfl) (ea_cons (ev_var rfl) ea_nil))) (go fun H2 e2 => ⟨fun h => absurd h (by omega), fun h => absurd h (by omega), fun _ => ⟨fun z => (isin hb z).elim, fun n _ _ _ => .inr ⟨lo, fun H3 d e3 hd => ⟨false, T.e_NoTerm.exm T.m_Barred_NoTerm, (fun h => nomatch h), fun _ => ⟨false, T.e_NoMany.exm T.m_Barred_NoMany, (fun h => nomatch h), fun _ => ⟨false, T.e_NoNumber.exm T.m_Barred_NoNumber, (fun h => nomatch h), fun _ => ⟨true, T.e_Barred.exm T.e_Barred.s, fun _ a' ha' => ?_, fun h => nomatch h⟩⟩⟩⟩⟩⟩⟩)
        have ga : upd (upd H3 d (.xd [(("n" : Str), .int (1 : Int))])) a' (ExK (.ref T.a_Barred) (some d) a') a' = some (ExK (.ref T.a_Barred) (some d) a') := upd_same
        have nd : d ≠ a' := fun z => by
          rw [← z, upd_same] at ha'
          cases ha'
        have gd : upd (upd H3 d (.xd [(("n" : Str), .int (1 : Int))])) a' (ExK (.ref T.a_Barred) (some d) a') d = some (.xd [(("n" : Str), .int (1 : Int))]) := by
          rw [upd_ne nd, upd_same]
        have eE : Ex H (upd (upd H3 d (.xd [(("n" : Str), .int (1 : Int))])) a' (ExK (.ref T.a_Barred) (some d) a')) := (((e0.trans e2).trans e3).trans (Ex.new hd)).trans (Ex.new ha')
        generalize upd (upd H3 d (.xd [(("n" : Str), .int (1 : Int))])) a' (ExK (.ref T.a_Barred) (some d) a') = H4 at *
        exact s_asg (v := .str (S barT1)) (ev_addT (a := [98, 97, 114, 114, 101, 100]) (b := [49]) ev_c (ev_is (ev_reprI (ev_xk (ev_var rfl) ga gd T.e_Barred.ex T.s_Barred.nf rfl) (by decide)) (congrArg V.str (str_num _))) (by decide)) fun H5 e5 => s_ret (ev_var rfl) fun H6 e6 => q H6 (eE.trans (e5.trans e6))
/-! ### _law_right -/
def BV0 (K : PySem.W.Frag) : V → Hp → Prop := fun v H => BadV K H v 0
theorem bv0_ex : ∀ v H1 H2, Ex H1 H2 → BV0 K v H1 → BV0 K v H2 := fun _ _ _ e h => BadV.ex h e
theorem nl0 {H : Hp} {v : V} (h : NonL H v) : BV0 K v H := .inl ⟨rfl, .inl h⟩
def NB : V → Hp → Prop := fun v H => ∃ o, NV H v o ∧ inZ o 1 300 = false
theorem nb_ex : ∀ v H1 H2, Ex H1 H2 → NB v H1 → NB v H2 := fun _ _ _ e ⟨o, h, k⟩ => ⟨o, h.ex e, k⟩
theorem v_bad0 {H : Hp} {w : Nat} {x y : V} {o : Option Int} (hw : w < 4) (ny : NV H y o) (h : BadV K H x 0) : SpV (sp_law_word K) [.int (w : Int), x, y] H (.str (S [116, 101, 114, 109, 48])) := v_word hw ny (.inl ⟨0, by decide, h, t0'.symm⟩)
theorem v_bad12 {H : Hp} {w : Nat} {x : V} (hw : w < 4) (h : BadV K H x 12) : SpV (sp_law_word K) [.int (w : Int), x, .int 1] H (.str (S [116, 101, 114, 109, 49, 50])) := v_word (o := some 1) hw rfl (.inl ⟨12, by decide, h, t12.symm⟩)
theorem v_bad3 {H : Hp} {w : Nat} {x : V} (hw : w < 4) (h : BadV K H x 3) : SpV (sp_law_word K) [.int (w : Int), x, .int 1] H (.str (S [116, 101, 114, 109, 51])) := v_word (o := some 1) hw rfl (.inl ⟨3, by decide, h, t3'.symm⟩)
theorem non_bad {H : Hp} {p : Addr} (g : H p = some (.lst [.non])) : BadV K H (.ref p) 0 := .inr ⟨p, _, rfl, g, by decide, by decide, fun k v hk => absurd hk (by omega), .inr ⟨.non, rfl, jt_non⟩⟩
def sp_law_right (K : PySem.W.Frag) : Sp := fun vs H Q _ => ∃ (a : Addr) (n : Nat), vs = [.ref a] ∧ Well H a n ∧ n + 2000 ≤ 2 ^ 50 ∧ ∀ H2, But a H H2 → Q (.bl true) H2
theorem ok_law_right (T : Txt K mg) : FnG PP w K mg base CX0 9 T.a_law_right T.d_law_right ["pot"] (sp_law_right K) := by
  refine okG T.F_law_right sc_law_right (fun vs H Q E h => ?_) (fun cdv A out s H vs Q E hr h => ?_)
  · obtain ⟨a, n, rfl, hw, hn, q⟩ := h
    rfl
  · obtain ⟨a, n, rfl, hw, hn, q⟩ := h
    refine ⟨_, (pss_cons (ps_set (i := 1) sc_law_right.nd rfl (.inr rfl) (pe_lst (pa_cons (pe_tup (pa_cons pe_str (pa_cons (pe_op op_powW pe_int pe_int) (pa_cons pe_int pa_nil)))) (pa_cons (pe_tup (pa_cons pe_str (pa_cons pe_int (pa_cons (pe_un un_neg pe_int) pa_nil)))) (pa_cons (pe_tup (pa_cons pe_str (pa_cons (pe_op op_powW pe_int pe_int) (pa_cons pe_int pa_nil)))) (pa_cons (pe_tup (pa_cons pe_str (pa_cons pe_int (pa_cons pe_int pa_nil)))) pa_nil))))))
    (pss_cons (ps_set (i := 2) sc_law_right.nd rfl (.inl rfl) (callG (ok_law_dip T) (hr.mono (by decide)) (by rfl) T.g_law_dip T.F_law_dip.kp (b_law_dip T) .nil pass0 (pa_cons (pv 0) (pa_cons pe_int pa_nil))))
    (pss_cons (ps_setLc (i := 3) (own := [("k", 9)]) (g := gName 9) rfl sc_law_right.nd rfl rfl (sw_true rfl rfl rfl (by decide +kernel)) (pi_range1 (by rfl) T.z_range (pa_cons (pv 2) pa_nil)) (blkOk_by (own := [("k", 9)]) (N := ["pot", "good", "size", "rule", "bad", "way", "item", "thing", "odd", "k"]) (sc := defScope s_law_right) (by decide +kernel)) (fun _ _ _ _ _ => (pg_name (i := 9) sc_law_right.nd rfl (Or.inl rfl))) (fun _ _ _ _ _ => pts_nil) (fun _ _ _ _ _ => (pe_ix (ix_listK (K := K) rfl) (pv 1) (callG (ok_law_dip T) (hr.mono (by decide)) (by rfl) T.g_law_dip T.F_law_dip.kp (b_law_dip T) .nil pass0 (pa_cons (pv 0) (pa_cons pe_int pa_nil))) (fun _ _ => rfl))))
    (pss_cons (ps_set (i := 4) sc_law_right.nd rfl (.inl rfl) (pe_lst (pa_cons (pe_tup (pa_cons pe_str (pa_cons (pe_op op_add (pe_op op_powW pe_int pe_int) pe_int) (pa_cons pe_int pa_nil)))) (pa_cons (pe_tup (pa_cons pe_str (pa_cons pe_int (pa_cons pe_int pa_nil)))) (pa_cons (pe_tup (pa_cons pe_str (pa_cons pe_int (pa_cons (pe_un un_neg pe_int) pa_nil)))) (pa_cons (pe_tup (pa_cons pe_str (pa_cons pe_int (pa_cons pe_int pa_nil)))) (pa_cons (pe_tup (pa_cons pe_str (pa_cons pe_int (pa_cons pe_int pa_nil)))) (pa_cons pe_non (pa_cons (pe_tup pa_nil) pa_nil)))))))))
    (pss_cons (ps_set (i := 4) sc_law_right.nd rfl (.inl rfl) (pe_op op_cat (pv 4) (pe_lst (pa_cons (pe_tup (pa_cons pe_str (pa_cons pe_int (pa_cons pe_int pa_nil)))) (pa_cons (pe_tup (pa_cons pe_str (pa_cons pe_int (pa_cons pe_int pa_nil)))) (pa_cons (pe_tup (pa_cons pe_str (pa_cons pe_int (pa_cons pe_int pa_nil)))) (pa_cons (pe_lst (pa_cons pe_str (pa_cons pe_int (pa_cons pe_int pa_nil)))) (pa_cons (pe_tup (pa_cons pe_str (pa_cons pe_int pa_nil))) (pa_cons (pe_tup (pa_cons pe_str (pa_cons pe_bl (pa_cons pe_int pa_nil)))) pa_nil)))))))))
    (pss_cons (ps_set (i := 4) sc_law_right.nd rfl (.inl rfl) (pe_op op_cat (pv 4) (pe_lst (pa_cons (pe_tup (pa_cons pe_str (pa_cons pe_int (pa_cons pe_non pa_nil)))) (pa_cons (pe_tup (pa_cons pe_str (pa_cons pe_str (pa_cons pe_int pa_nil)))) (pa_cons (pe_tup (pa_cons pe_str (pa_cons (pe_op op_sub (pe_un un_neg (pe_op op_powW pe_int pe_int)) pe_int) (pa_cons pe_int pa_nil)))) (pa_cons (pe_tup (pa_cons pe_int (pa_cons pe_int (pa_cons pe_int pa_nil)))) (pa_cons (pe_tup (pa_cons pe_str (pa_cons pe_int (pa_cons pe_int (pa_cons pe_int pa_nil))))) (pa_cons pe_str pa_nil)))))))))
    (pss_cons (ps_for PassesOwn.never rfl (pi_range1 (by rfl) T.z_range (pa_cons pe_int pa_nil)) (pg_name (i := 5) sc_law_right.nd rfl (.inl rfl))
      (pss_cons (ps_for PassesOwn.never rfl (pi_listK (K := K) rfl (pv 4)) (pg_name (i := 6) sc_law_right.nd rfl (.inl rfl))
        (pss_one (ps_if (pt_cmpR op_ne (callG (ok_law_word T) (hr.mono (by decide)) (by rfl) T.g_law_word T.F_law_word.kp (b_law_word T) .nil pass0 (pa_cons (pv 5) (pa_cons (pe_op op_cat (pe_op op_cat (pv 3) (pe_lst (pa_cons (pv 6) pa_nil))) (pe_slice (sl_listK (K := K) rfl) (pv 1) po_none (po_some (callG (ok_law_dip T) (hr.mono (by decide)) (by rfl) T.g_law_dip T.F_law_dip.kp (b_law_dip T) .nil pass0 (pa_cons (pv 0) (pa_cons pe_int pa_nil)))))) (pa_cons pe_int pa_nil)))) (pe_op op_add_str pe_str (pe_callB SkE.call_repr_int (by rfl) T.z_repr bt_repr (pa_cons (pv 2) pa_nil))) (nomark _))
          (pss_one (ps_ret pe_bl))
          pss_nil)))
      (pss_cons (ps_if (PW.pt (pw_or (pt_cmpR op_ne (callG (ok_law_word T) (hr.mono (by decide)) (by rfl) T.g_law_word T.F_law_word.kp (b_law_word T) .nil pass0 (pa_cons (pv 5) (pa_cons (pe_op op_rep (pe_lst (pa_cons (pe_ix (ix_listK (K := K) rfl) (pv 1) pe_int (fun _ _ => rfl)) pa_nil)) pe_int) (pa_cons pe_int pa_nil)))) pe_str (nomark _)) (pw_or1 (pt_cmpR op_ne (callG (ok_law_word T) (hr.mono (by decide)) (by rfl) T.g_law_word T.F_law_word.kp (b_law_word T) .nil pass0 (pa_cons (pv 5) (pa_cons (pe_op op_cat (pe_op op_rep (pe_lst (pa_cons (pe_ix (ix_listK (K := K) rfl) (pv 1) pe_int (fun _ _ => rfl)) pa_nil)) pe_int) (pe_lst (pa_cons pe_non pa_nil))) (pa_cons pe_int pa_nil)))) pe_str (nomark _)))))
        (pss_one (ps_ret pe_bl))
        pss_nil)
      (pss_one (ps_for PassesOwn.never rfl (pi_tupK (K := K) rfl (pe_tup (pa_cons pe_non (pa_cons (pe_lst pa_nil) (pa_cons (pe_tup pa_nil) (pa_cons (pe_callTy (call_tupleK (K := K) rfl) (by rfl) T.z_tuple bt_tuple (pa_cons (pv 1) pa_nil)) (pa_cons pe_str (pa_cons pe_int (pa_cons pe_bl (pa_cons pe_dnewK pa_nil)))))))))) (pg_name (i := 7) sc_law_right.nd rfl (.inl rfl))
        (pss_one (ps_if (pt_cmpR op_ne (callG (ok_law_word T) (hr.mono (by decide)) (by rfl) T.g_law_word T.F_law_word.kp (b_law_word T) .nil pass0 (pa_cons (pv 5) (pa_cons (pv 7) (pa_cons pe_int pa_nil)))) pe_str (nomark _))
          (pss_one (ps_ret pe_bl))
          pss_nil)))))))
    (pss_cons (ps_set (i := 8) sc_law_right.nd rfl (.inl rfl) (pe_lst (pa_cons pe_int (pa_cons (pe_un un_neg pe_int) (pa_cons pe_int (pa_cons pe_non (pa_cons pe_bl (pa_cons pe_str (pa_cons (pe_tup (pa_cons pe_int pa_nil)) (pa_cons (pe_lst (pa_cons pe_int pa_nil)) (pa_cons pe_dnewK (pa_cons (pe_op op_powW pe_int pe_int) pa_nil))))))))))))
    (pss_cons (ps_if (pt_cmpR (op_neDK (K := K) rfl hr.rm.units) (pe_lc (own := [("thing", 7)]) (g := gName 7) rfl sc_law_right.nd (pi_listK (K := K) rfl (pv 8)) (blkOk_by (own := [("thing", 7)]) (N := ["pot", "good", "size", "rule", "bad", "way", "item", "thing", "odd", "k"]) (sc := defScope s_law_right) (by decide +kernel)) (fun _ _ _ _ _ => (pg_name (i := 7) sc_law_right.nd rfl (Or.inl rfl))) (fun _ _ _ _ _ => pts_nil) (fun _ _ _ _ _ => (callG (ok_law_word T) (hr.mono (by decide)) (by rfl) T.g_law_word T.F_law_word.kp (b_law_word T) .nil pass0 (pa_cons pe_int (pa_cons (pv 1) (pa_cons (pv 7) pa_nil)))))) (pe_op op_rep (pe_lst (pa_cons pe_str pa_nil)) pe_int) (nomark _))
      (pss_one (ps_ret pe_bl))
      pss_nil)
    (pss_cons (ps_if (pt_cmpR (op_neDK (K := K) rfl hr.rm.units) (pe_lc (own := [("thing", 7)]) (g := gName 7) rfl sc_law_right.nd (pi_listK (K := K) rfl (pv 8)) (blkOk_by (own := [("thing", 7)]) (N := ["pot", "good", "size", "rule", "bad", "way", "item", "thing", "odd", "k"]) (sc := defScope s_law_right) (by decide +kernel)) (fun _ _ _ _ _ => (pg_name (i := 7) sc_law_right.nd rfl (Or.inl rfl))) (fun _ _ _ _ _ => pts_nil) (fun _ _ _ _ _ => (callG (ok_law_word T) (hr.mono (by decide)) (by rfl) T.g_law_word T.F_law_word.kp (b_law_word T) .nil pass0 (pa_cons pe_int (pa_cons (pe_lst (pa_cons (pe_tup (pa_cons pe_str (pa_cons (pe_un un_neg pe_int) (pa_cons pe_int pa_nil)))) pa_nil)) (pa_cons (pv 7) pa_nil)))))) (pe_op op_rep (pe_lst (pa_cons pe_str pa_nil)) pe_int) (nomark _))
      (pss_one (ps_ret pe_bl))
      pss_nil)
    (pss_cons (ps_if (PW.pt (pw_or (pt_cmpR op_ne (callG (ok_law_word T) (hr.mono (by decide)) (by rfl) T.g_law_word T.F_law_word.kp (b_law_word T) .nil pass0 (pa_cons pe_int (pa_cons (pe_lst (pa_cons (pe_tup (pa_cons pe_str (pa_cons (pe_un un_neg pe_int) (pa_cons pe_int pa_nil)))) pa_nil)) (pa_cons pe_int pa_nil)))) pe_str (nomark _)) (pw_or1 (pt_cmpR op_ne (callG (ok_law_word T) (hr.mono (by decide)) (by rfl) T.g_law_word T.F_law_word.kp (b_law_word T) .nil pass0 (pa_cons pe_int (pa_cons (pe_lst (pa_cons pe_non pa_nil)) (pa_cons pe_int pa_nil)))) pe_str (nomark _)))))
      (pss_one (ps_ret pe_bl))
      pss_nil)
    (pss_cons (ps_if (PW.pt (pw_or (pt_cmpR op_ne (callG (ok_law_word T) (hr.mono (by decide)) (by rfl) T.g_law_word T.F_law_word.kp (b_law_word T) .nil pass0 (pa_cons pe_int (pa_cons (pe_lst (pa_cons pe_non pa_nil)) (pa_cons pe_int pa_nil)))) pe_str (nomark _)) (pw_or1 (pt_cmpR op_ne (callG (ok_law_word T) (hr.mono (by decide)) (by rfl) T.g_law_word T.F_law_word.kp (b_law_word T) .nil pass0 (pa_cons pe_int (pa_cons (pe_lst (pa_cons (pe_tup (pa_cons pe_str (pa_cons pe_int (pa_cons pe_int pa_nil)))) pa_nil)) (pa_cons pe_non pa_nil)))) pe_str (nomark _)))))
      (pss_one (ps_ret pe_bl))
      pss_nil)
    (pss_cons (ps_if (pt_cmpR (op_neDK (K := K) rfl hr.rm.units) (pe_lc (own := [("way", 5)]) (g := gName 5) rfl sc_law_right.nd (pi_range1 (by rfl) T.z_range (pa_cons pe_int pa_nil)) (blkOk_by (own := [("way", 5)]) (N := ["pot", "good", "size", "rule", "bad", "way", "item", "thing", "odd", "k"]) (sc := defScope s_law_right) (by decide +kernel)) (fun _ _ _ _ _ => (pg_name (i := 5) sc_law_right.nd rfl (Or.inl rfl))) (fun _ _ _ _ _ => pts_nil) (fun _ _ _ _ _ => (callG (ok_law_word T) (hr.mono (by decide)) (by rfl) T.g_law_word T.F_law_word.kp (b_law_word T) .nil pass0 (pa_cons (pv 5) (pa_cons (pe_op op_cat (pe_op op_cat (pe_op op_rep (pe_lst (pa_cons (pe_ix (ix_listK (K := K) rfl) (pv 1) pe_int (fun _ _ => rfl)) pa_nil)) pe_int) (pe_lst (pa_cons pe_non pa_nil))) (pe_op op_rep (pe_lst (pa_cons (pe_ix (ix_listK (K := K) rfl) (pv 1) pe_int (fun _ _ => rfl)) pa_nil)) pe_int)) (pa_cons pe_int pa_nil)))))) (pe_op op_rep (pe_lst (pa_cons pe_str pa_nil)) pe_int) (nomark _))
      (pss_one (ps_ret pe_bl))
      pss_nil)
    (pss_one (ps_ret (pe_cmpR (op_eqDK (K := K) rfl hr.rm.units) (pe_lc (own := [("way", 5)]) (g := gName 5) rfl sc_law_right.nd (pi_range1 (by rfl) T.z_range (pa_cons pe_int pa_nil)) (blkOk_by (own := [("way", 5)]) (N := ["pot", "good", "size", "rule", "bad", "way", "item", "thing", "odd", "k"]) (sc := defScope s_law_right) (by decide +kernel)) (fun _ _ _ _ _ => (pg_name (i := 5) sc_law_right.nd rfl (Or.inl rfl))) (fun _ _ _ _ _ => pts_nil) (fun _ _ _ _ _ => (callG (ok_law_word T) (hr.mono (by decide)) (by rfl) T.g_law_word T.F_law_word.kp (b_law_word T) .nil pass0 (pa_cons (pv 5) (pa_cons (pe_op op_cat (pe_slice (sl_listK (K := K) rfl) (pv 1) (po_some pe_int) po_none) (pe_lst (pa_cons (pe_ix (ix_listK (K := K) rfl) (pv 1) pe_int (fun _ _ => rfl)) pa_nil))) (pa_cons pe_int pa_nil)))))) (pe_op op_rep (pe_lst (pa_cons pe_str pa_nil)) pe_int) (nomark _))))))))))))))))), ?_⟩
    refine q_asgR (ts := gts) (er_lst (ear_cons (eu_tup (ea_cons ev_c (ea_cons (ev_is (ev_op ev_c ev_c (rv_I (cpw (by decide) (by decide) (by decide)))) (show V.int ((10 : Int) ^ Int.toNat 6) = .int 1000000 from congrArg V.int (by decide))) (ea_cons ev_c ea_nil))) (by show 3 ≤ 100000; decide)) (ear_cons (eu_tup (ea_cons ev_c (ea_cons ev_c (ea_cons (ev_un ev_c ru_neg) ea_nil))) (by show 3 ≤ 100000; decide)) (ear_cons (eu_tup (ea_cons ev_c (ea_cons (ev_is (ev_op ev_c ev_c (rv_I (cpw (by decide) (by decide) (by decide)))) (show V.int ((10 : Int) ^ Int.toNat 6) = .int 1000000 from congrArg V.int (by decide))) (ea_cons ev_c ea_nil))) (by show 3 ≤ 100000; decide)) (ear_cons (eu_tup (ea_cons ev_c (ea_cons ev_c (ea_cons ev_c ea_nil))) (by show 3 ≤ 100000; decide)) ear_nil)))) (by decide)) fun g H1 hg e1 Rg => ?_
    have ng := hw.ne hg
    have w1 := hw.ex e1
    obtain ⟨as, gg, la, fg⟩ := Rg
    obtain ⟨a0, a1, a2, a3, rfl⟩ : ∃ a0 a1 a2 a3, as = [a0, a1, a2, a3] := by
      match as, la with
      | [a0, a1, a2, a3], _ => exact ⟨a0, a1, a2, a3, rfl⟩
    refine qw_asg (P := fun v => ∃ s : Nat, v = .int (s : Int) ∧ s < 12) (EvW.mono (ew_drawC (m := 12) rfl ev_c (by decide) (lt8000 (by decide))) ?_) w1 (by omega) ?_
    · rintro v ⟨r, rfl, r0, r1⟩
      exact ⟨r.toNat, by rw [Int.toNat_of_nonneg r0], by omega⟩
    rintro _ H2 b2 w2 ⟨s, rfl, hs⟩
    have gg2 := b2 _ _ ng gg
    refine qw_asgL (P := fun xs => ∃ r : Int, r = (s : Int) ∧ (xs.length : Int) = r ∧ ∀ v ∈ xs, v = .ref a0 ∨ v = .ref a1 ∨ v = .ref a2 ∨ v = .ref a3) (ewl_lcR1 (N := 12) (d1 := 0) (d2 := 1) (P := fun r => r = (s : Int)) (PE := fun v => v = .ref a0 ∨ v = .ref a1 ∨ v = .ref a2 ∨ v = .ref a3) (ew_pure (ev_var rfl) ⟨_, rfl, rfl⟩) (fun r hr => by omega) (by decide) (fun _ => rfl) fun i H3 b3 => ?_) w2 (by omega) ?_
    · refine ew_ixA (ev_var rfl) (b3 _ _ ng gg2) ng (ew_drawC (m := 4) rfl ev_c (by decide) (lt8000 (by decide))) ?_
      rintro v ⟨r, rfl, r0, r1⟩
      obtain ⟨j, rfl⟩ : ∃ j : Nat, r = j := ⟨r.toNat, by omega⟩
      match j, r1 with
      | 0, _ => exact ⟨_, _, rfl, rfl, .inl rfl⟩
      | 1, _ => exact ⟨_, _, rfl, rfl, .inr (.inl rfl)⟩
      | 2, _ => exact ⟨_, _, rfl, rfl, .inr (.inr (.inl rfl))⟩
      | 3, _ => exact ⟨_, _, rfl, rfl, .inr (.inr (.inr rfl))⟩
      | j + 4, h => omega
    rintro rl rs H3 hrl b3 w3 grl ⟨_, rfl, lrs, rm⟩
    have nr := w2.ne hrl
    refine q_asgLP (el_lstP (P := JF K) (n := 7) (fun _ _ _ e h => jt_ex h e) (ap_cons (fun _ _ _ e h => jt_ex h e)
          (ep_T3 (P1 := fun v _ => v = .str ("power" : Str)) (P2 := fun v H => NV H v (some (1000001))) (P3 := fun v H => NV H v (some (2))) (ep_V ev_c fun _ _ => rfl) (ep_V (P := fun v H => NV H v (some (1000001))) (ev_is (ev_op (ev_is (ev_op ev_c ev_c (rv_I (cpw (by decide) (by decide) (by decide)))) (show V.int ((10 : Int) ^ Int.toNat 6) = .int 1000000 from congrArg V.int (by decide))) ev_c rv_I0) (show V.int (1000000 + 1) = .int 1000001 from rfl)) fun _ _ => rfl) (ep_V (P := fun v H => NV H v (some (2))) ev_c fun _ _ => rfl) (fun _ _ _ _ h => h) (fun _ _ _ e h => NV.ex h e) (fun _ _ _ e h => NV.ex h e) (fun x y z p H' p1 p2 p3 g => by subst p1; exact jt_three g p2 p3 (by decide)))
          (ap_cons (fun _ _ _ e h => jt_ex h e)
          (ep_T3 (P1 := fun v _ => v = .str ("power" : Str)) (P2 := fun v H => NV H v (some (1))) (P3 := fun v H => NV H v (some (41))) (ep_V ev_c fun _ _ => rfl) (ep_V (P := fun v H => NV H v (some (1))) ev_c fun _ _ => rfl) (ep_V (P := fun v H => NV H v (some (41))) ev_c fun _ _ => rfl) (fun _ _ _ _ h => h) (fun _ _ _ e h => NV.ex h e) (fun _ _ _ e h => NV.ex h e) (fun x y z p H' p1 p2 p3 g => by subst p1; exact jt_three g p2 p3 (by decide)))
          (ap_cons (fun _ _ _ e h => jt_ex h e)
          (ep_T3 (P1 := fun v _ => v = .str ("power" : Str)) (P2 := fun v H => NV H v (some (1))) (P3 := fun v H => NV H v (some (-41))) (ep_V ev_c fun _ _ => rfl) (ep_V (P := fun v H => NV H v (some (1))) ev_c fun _ _ => rfl) (ep_V (P := fun v H => NV H v (some (-41))) (ev_un ev_c ru_neg) fun _ _ => rfl) (fun _ _ _ _ h => h) (fun _ _ _ e h => NV.ex h e) (fun _ _ _ e h => NV.ex h e) (fun x y z p H' p1 p2 p3 g => by subst p1; exact jt_three g p2 p3 (by decide)))
          (ap_cons (fun _ _ _ e h => jt_ex h e)
          (ep_T3 (P1 := fun v _ => v = .str ("ring" : Str)) (P2 := fun v H => NV H v (some (1))) (P3 := fun v H => NV H v (some (0))) (ep_V ev_c fun _ _ => rfl) (ep_V (P := fun v H => NV H v (some (1))) ev_c fun _ _ => rfl) (ep_V (P := fun v H => NV H v (some (0))) ev_c fun _ _ => rfl) (fun _ _ _ _ h => h) (fun _ _ _ e h => NV.ex h e) (fun _ _ _ e h => NV.ex h e) (fun x y z p H' p1 p2 p3 g => by subst p1; exact jt_three g p2 p3 (by decide)))
          (ap_cons (fun _ _ _ e h => jt_ex h e)
          (ep_T3 (P1 := fun v _ => v = .str ("ring" : Str)) (P2 := fun v H => NV H v (some (1))) (P3 := fun v H => NV H v (some (301))) (ep_V ev_c fun _ _ => rfl) (ep_V (P := fun v H => NV H v (some (1))) ev_c fun _ _ => rfl) (ep_V (P := fun v H => NV H v (some (301))) ev_c fun _ _ => rfl) (fun _ _ _ _ h => h) (fun _ _ _ e h => NV.ex h e) (fun _ _ _ e h => NV.ex h e) (fun x y z p H' p1 p2 p3 g => by subst p1; exact jt_three g p2 p3 (by decide)))
          (ap_cons (fun _ _ _ e h => jt_ex h e)
          (ep_V ev_c fun _ _ => jt_non)
          (ap_cons (fun _ _ _ e h => jt_ex h e)
          (ep_U (eu_tup ea_nil (Nat.zero_le _)) fun p H1 H2 _ _ _ g => jt_tup g (by decide))
          ap_nil))))))) (by decide)) fun p1 x1 H4 h1 e4 q1 j1 => ?_
    refine q_asgLP (elp_mono (PL' := AllP (JF K) 13) (el_catP (ev_var rfl) q1 (el_lstP (P := JF K) (n := 6) (fun _ _ _ e h => jt_ex h e) (ap_cons (fun _ _ _ e h => jt_ex h e)
          (ep_T3 (P1 := fun v _ => v = .str ("places" : Str)) (P2 := fun v H => NV H v (some (1))) (P3 := fun v H => NV H v (some (0))) (ep_V ev_c fun _ _ => rfl) (ep_V (P := fun v H => NV H v (some (1))) ev_c fun _ _ => rfl) (ep_V (P := fun v H => NV H v (some (0))) ev_c fun _ _ => rfl) (fun _ _ _ _ h => h) (fun _ _ _ e h => NV.ex h e) (fun _ _ _ e h => NV.ex h e) (fun x y z p H' p1 p2 p3 g => by subst p1; exact jt_three g p2 p3 (by decide)))
          (ap_cons (fun _ _ _ e h => jt_ex h e)
          (ep_T3 (P1 := fun v _ => v = .str ("places" : Str)) (P2 := fun v H => NV H v (some (1))) (P3 := fun v H => NV H v (some (7))) (ep_V ev_c fun _ _ => rfl) (ep_V (P := fun v H => NV H v (some (1))) ev_c fun _ _ => rfl) (ep_V (P := fun v H => NV H v (some (7))) ev_c fun _ _ => rfl) (fun _ _ _ _ h => h) (fun _ _ _ e h => NV.ex h e) (fun _ _ _ e h => NV.ex h e) (fun x y z p H' p1 p2 p3 g => by subst p1; exact jt_three g p2 p3 (by decide)))
          (ap_cons (fun _ _ _ e h => jt_ex h e)
          (ep_T3 (P1 := fun v _ => v = .str ("rings" : Str)) (P2 := fun v H => NV H v (some (1))) (P3 := fun v H => NV H v (some (2))) (ep_V ev_c fun _ _ => rfl) (ep_V (P := fun v H => NV H v (some (1))) ev_c fun _ _ => rfl) (ep_V (P := fun v H => NV H v (some (2))) ev_c fun _ _ => rfl) (fun _ _ _ _ h => h) (fun _ _ _ e h => NV.ex h e) (fun _ _ _ e h => NV.ex h e) (fun x y z p H' p1 p2 p3 g => by subst p1; exact jt_three g p2 p3 (by decide)))
          (ap_cons (fun _ _ _ e h => jt_ex h e)
          (ep_L (el_lst (ea_cons ev_c (ea_cons ev_c (ea_cons ev_c ea_nil))) (by show 3 ≤ 100000; decide)) fun p H1 H2 _ _ _ g => jt_lst g)
          (ap_cons (fun _ _ _ e h => jt_ex h e)
          (ep_U (eu_tup (ea_cons ev_c (ea_cons ev_c ea_nil)) (by show 2 ≤ 100000; decide)) fun p H1 H2 _ _ _ g => jt_tup g (by show 2 ≠ 3; decide))
          (ap_cons (fun _ _ _ e h => jt_ex h e)
          (ep_T3 (P1 := fun v _ => v = .str ("power" : Str)) (P2 := fun v H => NV H v none) (P3 := fun v H => NV H v (some (2))) (ep_V ev_c fun _ _ => rfl) (ep_V (P := fun v H => NV H v none) ev_c fun _ _ => .inr (.inl ⟨true, rfl⟩)) (ep_V (P := fun v H => NV H v (some (2))) ev_c fun _ _ => rfl) (fun _ _ _ _ h => h) (fun _ _ _ e h => NV.ex h e) (fun _ _ _ e h => NV.ex h e) (fun x y z p H' p1 p2 p3 g => by subst p1; exact jt_three g p2 p3 (by decide)))
          ap_nil)))))) (by decide)) (fun ys H2 h => by rw [j1.1, h.1]; decide) (fun ys H2 H3 e h => allp_ex h e)) fun zs H2 e ⟨ys, h, k⟩ => by rw [h]; exact allp_app (allp_ex j1 e) k) fun p2 x2 H5 h2 e5 q2 j2 => ?_
    refine q_asgLP (elp_mono (PL' := AllP (JF K) 19) (el_catP (ev_var rfl) q2 (el_lstP (P := JF K) (n := 6) (fun _ _ _ e h => jt_ex h e) (ap_cons (fun _ _ _ e h => jt_ex h e)
          (ep_T3 (P1 := fun v _ => v = .str ("power" : Str)) (P2 := fun v H => NV H v (some (1))) (P3 := fun v H => NV H v none) (ep_V ev_c fun _ _ => rfl) (ep_V (P := fun v H => NV H v (some (1))) ev_c fun _ _ => rfl) (ep_V (P := fun v H => NV H v none) ev_c fun _ _ => .inl rfl) (fun _ _ _ _ h => h) (fun _ _ _ e h => NV.ex h e) (fun _ _ _ e h => NV.ex h e) (fun x y z p H' p1 p2 p3 g => by subst p1; exact jt_three g p2 p3 (by decide)))
          (ap_cons (fun _ _ _ e h => jt_ex h e)
          (ep_T3 (P1 := fun v _ => v = .str ("power" : Str)) (P2 := fun v H => NV H v none) (P3 := fun v H => NV H v (some (2))) (ep_V ev_c fun _ _ => rfl) (ep_V (P := fun v H => NV H v none) ev_c fun _ _ => .inr (.inr (.inl ⟨_, rfl⟩))) (ep_V (P := fun v H => NV H v (some (2))) ev_c fun _ _ => rfl) (fun _ _ _ _ h => h) (fun _ _ _ e h => NV.ex h e) (fun _ _ _ e h => NV.ex h e) (fun x y z p H' p1 p2 p3 g => by subst p1; exact jt_three g p2 p3 (by decide)))
          (ap_cons (fun _ _ _ e h => jt_ex h e)
          (ep_T3 (P1 := fun v _ => v = .str ("ring" : Str)) (P2 := fun v H => NV H v (some (-1000001))) (P3 := fun v H => NV H v (some (2))) (ep_V ev_c fun _ _ => rfl) (ep_V (P := fun v H => NV H v (some (-1000001))) (ev_is (ev_op (ev_un (ev_is (ev_op ev_c ev_c (rv_I (cpw (by decide) (by decide) (by decide)))) (show V.int ((10 : Int) ^ Int.toNat 6) = .int 1000000 from congrArg V.int (by decide))) ru_neg) ev_c rv_I0) (show V.int (-1000000 - 1) = .int (-1000001) from rfl)) fun _ _ => rfl) (ep_V (P := fun v H => NV H v (some (2))) ev_c fun _ _ => rfl) (fun _ _ _ _ h => h) (fun _ _ _ e h => NV.ex h e) (fun _ _ _ e h => NV.ex h e) (fun x y z p H' p1 p2 p3 g => by subst p1; exact jt_three g p2 p3 (by decide)))
          (ap_cons (fun _ _ _ e h => jt_ex h e)
          (ep_U (eu_tup (ea_cons ev_c (ea_cons ev_c (ea_cons ev_c ea_nil))) (by show 3 ≤ 100000; decide)) fun p H1 H2 _ _ _ g => .inr ⟨rfl, .inr (.inr (.inr (.inr (.inr (.inr (.inr ⟨p, _, _, _, rfl, st_of g, .inl ⟨1, rfl⟩⟩))))))⟩)
          (ap_cons (fun _ _ _ e h => jt_ex h e)
          (ep_U (eu_tup (ea_cons ev_c (ea_cons ev_c (ea_cons ev_c (ea_cons ev_c ea_nil)))) (by show 4 ≤ 100000; decide)) fun p H1 H2 _ _ _ g => jt_tup g (by show 4 ≠ 3; decide))
          (ap_cons (fun _ _ _ e h => jt_ex h e)
          (ep_V ev_c fun _ _ => jt_str _)
          ap_nil)))))) (by decide)) (fun ys H2 h => by rw [j2.1, h.1]; decide) (fun ys H2 H3 e h => allp_ex h e)) fun zs H2 e ⟨ys, h, k⟩ => by rw [h]; exact allp_app (allp_ex j2 e) k) fun bp bs H6 hbp e6 gbp jb => ?_
    have e36 := (e4.trans e5).trans e6
    have w6 := w3.ex e36
    have nbp : bp ≠ a := (w3.ex (e4.trans e5)).ne hbp
    have bAll : But a H H6 := ((But.ex e1).trans b2).trans (b3.trans (But.ex e36))
    have pk6 : Pk K a g rl bp a0 a1 a2 a3 rs bs H6 := by
      obtain ⟨xa, ga⟩ := well_lst w1
      have b16 : But a H1 H6 := b2.trans (b3.trans (But.ex e36))
      have tp : ∀ {i : Nat} {b : Addr} {t : Tm}, [a0, a1, a2, a3][i]? = some b → gts[i]? = some t → H6 b = some (.tup (tv t)) := fun x y => b16 _ _ (tup_lst (fg _ _ _ x y) ga) (fg _ _ _ x y)
      exact ⟨b16 _ _ ng gg, tp (i := 0) rfl rfl, tp (i := 1) rfl rfl, tp (i := 2) rfl rfl, tp (i := 3) rfl rfl, e36 _ _ grl, rm, gbp, jb.2, ng, nr, nbp⟩
    have lrs' : rs.length = s := by omega
    refine q_forR1 (n := 4) (ea_cons ev_c ea_nil) (by decide) (fun i σ' H' => ∃ (y5 y6 y7 : Option V), σ' = [some (.ref a), some (.ref g), some (.int (s : Int)), some (.ref rl), some (.ref bp), y5, y6, y7, none, none] ∧ But a H H' ∧ Well H' a (n + 30 + i * 30) ∧ Pk K a g rl bp a0 a1 a2 a3 rs bs H') ?_ ?_ ?_
    · intro H7 e7
      exact ⟨_, _, _, rfl, bAll.trans (But.ex e7), (w6.ex e7).mono (by omega), pk6.ex e7⟩
    · rintro i σ' H7 hi ⟨y5, y6, y7, rfl, b7, w7, pk7⟩
      have hi4 : i < 4 := by omega
      refine q_forLn (ev_var rfl) (sq_of pk7.gb) (fun j σ' H' => ∃ (y6 : Option V), σ' = [some (.ref a), some (.ref g), some (.int (s : Int)), some (.ref rl), some (.ref bp), some (.int (i : Int)), y6, y7, none, none] ∧ But a H H' ∧ Well H' a (n + 30 + i * 30 + j) ∧ Pk K a g rl bp a0 a1 a2 a3 rs bs H') ?_ ?_ ?_ ?_
      · intro H8 e8
        exact ⟨_, rfl, b7.trans (But.ex e8), w7.ex e8, pk7.ex e8⟩
      · rintro j σ' H' _ ⟨y6, rfl, b8, w8, pk8⟩
        exact sq_of pk8.gb
      · rintro j x σ' H8 hx ⟨y6, rfl, b8, w8, pk8⟩
        have hj : j < 19 := by
          have := (List.getElem?_eq_some_iff.mp hx).1
          have := jb.1
          omega
        have hm := List.mem_of_getElem? hx
        refine sw_no (ew_op (P1 := fun v => v = .str (S (termT s))) (P2 := fun v => v = .str (S (termT s))) (ew_cWL (x := .int (i : Int)) (y := .int 1) (PL := fun zs => ∃ ys, (∃ k : Nat, ys = [V.ref a0, .ref a1, .ref a2, .ref a3].take k) ∧ zs = (rs ++ [x]) ++ ys) (ev_var rfl) (ewl_catN (xs := rs ++ [x]) (el_cat (p := rl) (q := rl) (ys := [x]) (ev_var rfl) (el_lst (ea_cons (ev_var rfl) ea_nil) (by show 1 ≤ 100000; decide)) (by rw [hid_ne pk8.nr]; exact pk8.gr) (by show _ + 1 ≤ _; omega)) (ewl_slT (ev_var rfl) pk8.gg pk8.ng (ew_drawC (m := 5) rfl ev_c (by decide) (lt8000 (by decide))) ?_) ?_) (fun _ => ev_c) ?_) (ew_pure (ev_addT (a := [116, 101, 114, 109]) ev_c (ev_is (ev_reprI (ev_var rfl) (lg1920 (by omega))) (congrArg V.str (str_num _))) (by have := nlen (i := s) (by omega); show 4 + _ ≤ _; omega)) rfl) ?_) w8 (by omega) ?_
        · rintro v ⟨r, rfl, r0, r1⟩
          exact ⟨r.toNat, by rw [Int.toNat_of_nonneg r0]⟩
        · rintro ys ⟨k, rfl⟩
          have : ([V.ref a0, .ref a1, .ref a2, .ref a3].take k).length ≤ 4 := by rw [List.length_take]; exact Nat.min_le_right _ _
          have e4 : [V.ref a0, .ref a1, .ref a2, .ref a3].length = 4 := rfl
          rw [List.length_append]
          show _ + 1 + _ ≤ _
          omega
        · rintro p xs m H9 b9 w9 gp ⟨_, ⟨k, rfl⟩, rfl⟩
          have pk9 := pk8.but w8 w9 b9
          have : ([V.ref a0, .ref a1, .ref a2, .ref a3].take k).length ≤ 4 := by rw [List.length_take]; exact Nat.min_le_right _ _
          have e4 : [V.ref a0, .ref a1, .ref a2, .ref a3].length = 4 := rfl
          refine v_word (o := some 1) hi4 rfl (.inl ⟨s, by omega, .inr ⟨p, _, rfl, gp, ?_⟩, rfl⟩)
          have bb := bad_item (K := K) (H := H9) (rs := rs) (x := x) (ys := [V.ref a0, .ref a1, .ref a2, .ref a3].take k) (by omega) (by omega) (fun v hv => pk9.jr hv) (pk9.jb x hm)
          rw [lrs'] at bb
          exact bb
        · rintro x y rfl rfl
          exact ⟨.bl false, fun H => rv_neSame _, rfl⟩
        · intro H9 b9 w9
          exact ⟨_, rfl, b8.trans b9, w9.mono (by omega), pk8.but w8 w9 b9⟩
      rintro σ' H8 ⟨y6', rfl, b8, w8, pk8⟩
      have w8' : Well H8 a (n + 30 + i * 30 + 30) := w8.mono (by have := jb.1; omega)
      refine q_when (b := false) (et_or (a := false) (b := false) (et_is (et_test (ev_op (ev_cVLC (x := .int (i : Int)) (xs := List.replicate 13 (V.ref a0) ++ []) (v := .str (S [116, 101, 114, 109, 49, 50])) (ev_var rfl) (el_is (el_rep (n := 13) (xs := [.ref a0]) (el_lst (ea_cons (ev_op (ev_var rfl) ev_c (rv_ixL (i := 0) (v := .ref a0) (sq_of pk8.gg) rfl)) ea_nil) (by show 1 ≤ 100000; decide)) (fun _ _ => ev_c) (by decide) (by show 1 * 13 ≤ 100000; decide) (by decide)) rfl) (fun _ _ => ev_c) fun p H9 e gp => ?_) ev_c (rv_neSame _))) rfl) fun _ => et_is (et_test (ev_op (ev_cVLC (x := .int (i : Int)) (xs := List.replicate 13 (V.ref a0) ++ [.non]) (v := .str (S [116, 101, 114, 109, 49, 50])) (ev_var rfl) (el_is (el_catNN (el_rep (n := 13) (xs := [.ref a0]) (el_lst (ea_cons (ev_op (ev_var rfl) ev_c (rv_ixL (i := 0) (v := .ref a0) (sq_of pk8.gg) rfl)) ea_nil) (by show 1 ≤ 100000; decide)) (fun _ _ => ev_c) (by decide) (by show 1 * 13 ≤ 100000; decide) (by decide)) (el_lst (ea_cons ev_c ea_nil) (by show 1 ≤ 100000; decide)) (by show 13 + 1 ≤ 100000; decide)) rfl) (fun _ _ => ev_c) fun p H9 e gp => ?_) ev_c (rv_neSame _))) rfl) (fun h => nomatch h) fun _ H9 e9 => ?_
      · exact v_bad12 hi4 (.inr ⟨p, _, rfl, gp, bad_rep (K := K) (xs := List.replicate 13 (V.ref a0)) (ys := []) (n := 13) rfl (by decide) (fun v hv => by rw [(List.mem_replicate.mp hv).2]; exact (pk8.ex e).j0) (.inl ⟨rfl, by decide⟩)⟩)
      · exact v_bad12 hi4 (.inr ⟨p, _, rfl, gp, bad_rep (K := K) (xs := List.replicate 13 (V.ref a0)) (ys := [.non]) (n := 13) rfl (by decide) (fun v hv => by rw [(List.mem_replicate.mp hv).2]; exact (pk8.ex e).j0) (.inl ⟨rfl, by decide⟩)⟩)
      have pk4 := pk8.ex e9
      refine s_forUP (PL := AllP (BV0 K) 8) (n := 0) (eup_tup bv0_ex (ap_cons bv0_ex
          (ep_V ev_c fun _ _ => nl0 (.inl rfl))
          (ap_cons bv0_ex
          (ep_L (el_lst ea_nil (Nat.zero_le _)) fun p H1 H2 _ _ _ g => .inl ⟨rfl, .inr ⟨p, rfl, g⟩⟩)
          (ap_cons bv0_ex
          (ep_U (eu_tup ea_nil (Nat.zero_le _)) fun p H1 H2 _ _ _ g => nl0 (.inr (.inr (.inr (.inr (.inl ⟨p, _, rfl, g⟩))))))
          (ap_cons bv0_ex
          (ep_U (eu_tupOf (ev_var rfl) (sq_of pk4.gg)) fun p H1 H2 _ _ _ g => nl0 (.inr (.inr (.inr (.inr (.inl ⟨p, _, rfl, g⟩))))))
          (ap_cons bv0_ex
          (ep_V ev_c fun _ _ => nl0 (.inr (.inr (.inr (.inl ⟨_, rfl⟩)))))
          (ap_cons bv0_ex
          (ep_V ev_c fun _ _ => nl0 (.inr (.inl ⟨3, rfl⟩)))
          (ap_cons bv0_ex
          (ep_V ev_c fun _ _ => nl0 (.inr (.inr (.inl ⟨true, rfl⟩))))
          (ap_cons bv0_ex
          (ep_D fun p H1 g => nl0 (.inr (.inr (.inr (.inr (.inr ⟨p, _, rfl, g⟩))))))
          ap_nil)))))))) (by decide)) (fun p xs j σ' H' => ∃ (y7 : Option V), σ' = [some (.ref a), some (.ref g), some (.int (s : Int)), some (.ref rl), some (.ref bp), some (.int (i : Int)), y6', y7, none, none] ∧ Ex H9 H' ∧ AllP (BV0 K) 8 xs H' ∧ H' p = some (.tup xs)) ?_ ?_ ?_ ?_
      · intro p xs H10 hp e10 g10 al
        exact ⟨_, rfl, e10, al, g10⟩
      · rintro p xs j σ' H' _ ⟨y7, rfl, e10, al, g10⟩
        exact st_of g10
      · rintro p xs j x σ' H10 hx ⟨y7, rfl, e10, al, g10⟩
        refine s_when (b := false) (et_is (et_test (ev_op (ev_call (ea_cons (ev_var rfl) (ea_cons (ev_var rfl) (ea_cons ev_c ea_nil))) (v_bad0 (o := some 1) hi4 rfl (al.2 x (List.mem_of_getElem? hx)))) ev_c (rv_neSame _))) rfl) (fun h => nomatch h) fun _ H11 e11 => ?_
        exact ⟨_, rfl, e10.trans e11, ⟨al.1, fun v hv => bv0_ex _ _ _ e11 (al.2 v hv)⟩, e11 _ _ g10⟩
      · rintro p xs σ' H10 ⟨y7, rfl, e10, al, g10⟩
        exact ⟨_, _, _, rfl, b8.trans (But.ex (e9.trans e10)), (w8'.ex (e9.trans e10)).mono (by rw [Nat.succ_mul]; omega), pk4.ex e10⟩
    rintro σ' H7 ⟨y5, y6, y7, rfl, b7, w7, pk7⟩
    refine q_asgLP (el_lstP (P := NB) (n := 10) nb_ex (ap_cons nb_ex
          (ep_V ev_c fun _ _ => ⟨some 0, rfl, rfl⟩)
          (ap_cons nb_ex
          (ep_V (ev_un ev_c ru_neg) fun _ _ => ⟨some (-1), rfl, rfl⟩)
          (ap_cons nb_ex
          (ep_V ev_c fun _ _ => ⟨some 301, rfl, rfl⟩)
          (ap_cons nb_ex
          (ep_V ev_c fun _ _ => ⟨none, .inl rfl, rfl⟩)
          (ap_cons nb_ex
          (ep_V ev_c fun _ _ => ⟨none, .inr (.inl ⟨true, rfl⟩), rfl⟩)
          (ap_cons nb_ex
          (ep_V ev_c fun _ _ => ⟨none, .inr (.inr (.inl ⟨_, rfl⟩)), rfl⟩)
          (ap_cons nb_ex
          (ep_U (eu_tup (ea_cons ev_c ea_nil) (by show 1 ≤ 100000; decide)) fun p H1 H2 _ _ _ g => ⟨none, .inr (.inr (.inr (.inr (.inl ⟨p, _, rfl, g⟩)))), rfl⟩)
          (ap_cons nb_ex
          (ep_L (el_lst (ea_cons ev_c ea_nil) (by show 1 ≤ 100000; decide)) fun p H1 H2 _ _ _ g => ⟨none, .inr (.inr (.inr (.inl ⟨p, _, rfl, g⟩))), rfl⟩)
          (ap_cons nb_ex
          (ep_D fun p H1 g => ⟨none, .inr (.inr (.inr (.inr (.inr ⟨p, _, rfl, g⟩)))), rfl⟩)
          (ap_cons nb_ex
          (ep_V (ev_is (ev_op ev_c ev_c (rv_I (cpw (by decide) (by decide) (by decide)))) (show V.int ((10 : Int) ^ Int.toNat 30) = .int 1000000000000000000000000000000 from congrArg V.int (by decide))) fun _ _ => ⟨some 1000000000000000000000000000000, rfl, by decide⟩)
          ap_nil)))))))))) (by decide)) fun op os H8 hop e8 gop ao => ?_
    have pk8 := pk7.ex e8
    refine q_when (b := false) (et_is (et_test (ev_neTT (as := List.replicate 10 manyT) (bs := List.replicate 10 manyT) (strsOk_of rfl) (strsOk_of rfl) (el_is (el_lcL (fun _ => true) (fun _ => .str (S manyT)) (ev_var rfl) (sq_of gop) (by rw [ao.1]; decide) (fun _ => rfl) (fun _ _ _ _ _ => et_yes) ?_) (by rw [ao.1]; exact given_const 10 manyT)) (el_is (el_rep (n := 10) (xs := [.str (S manyT)]) (el_lst (ea_cons ev_c ea_nil) (by show 1 ≤ 100000; decide)) (fun _ _ => ev_c) (by decide) (by decide) (by decide)) rfl))) (by simp)) (fun h => nomatch h) fun _ H9 e9 => ?_
    · intro i x H9 e9 hx _
      obtain ⟨o, no, ho⟩ := nb_ex _ _ _ e9 (ao.2 x (List.mem_of_getElem? hx))
      exact ev_call (ea_cons ev_c (ea_cons (ev_var rfl) (ea_cons (ev_var rfl) ea_nil))) (v_word (w := 2) (o := o) (by decide) no (.inr ⟨g, gts, rfl, (pk8.ex e9).good, by decide, by decide, gts_ok, .inr (.inr (.inl ⟨rfl, ho, rfl⟩))⟩))
    have barOk : ∀ t ∈ [(⟨0, -1, 2⟩ : Tm)], TmOk t := fun t h => by
      rw [List.mem_singleton.mp h]
      exact ⟨by decide, by decide, by decide, by decide, by decide, by decide⟩
    refine q_when (b := false) (et_is (et_test (ev_neTT (as := List.replicate 10 numbT) (bs := List.replicate 10 numbT) (strsOk_of rfl) (strsOk_of rfl) (el_is (el_lcL (fun _ => true) (fun _ => .str (S numbT)) (ev_var rfl) (sq_of (e9 _ _ gop)) (by rw [ao.1]; decide) (fun _ => rfl) (fun _ _ _ _ _ => et_yes) ?_) (by rw [ao.1]; exact given_const 10 numbT)) (el_is (el_rep (n := 10) (xs := [.str (S numbT)]) (el_lst (ea_cons ev_c ea_nil) (by show 1 ≤ 100000; decide)) (fun _ _ => ev_c) (by decide) (by decide) (by decide)) rfl))) (by simp)) (fun h => nomatch h) fun _ H10 e10 => ?_
    · intro i x H10 e10 hx _
      obtain ⟨o, no, ho⟩ := nb_ex _ _ _ (e9.trans e10) (ao.2 x (List.mem_of_getElem? hx))
      exact ev_cVRC (x := .int (3 : Nat)) ev_c (er_lst1 (x := ⟨0, -1, 2⟩) (eu_tup (ea_cons ev_c (ea_cons (ev_un ev_c ru_neg) (ea_cons ev_c ea_nil))) (by show 3 ≤ 100000; decide))) (fun _ _ => ev_var rfl) fun r H11 e11 R => v_word (w := 3) (o := o) (by decide) (no.ex e11) (.inr ⟨r, _, rfl, R, by decide, by decide, barOk, .inr (.inr (.inr (.inl ⟨rfl, ho, rfl⟩)))⟩)
    refine q_when (b := false) (et_or (a := false) (b := false) (et_is (et_test (ev_op (ev_cVRC (x := .int (3 : Nat)) (v := .str (S barT1)) ev_c (er_lst1 (x := ⟨0, -1, 2⟩) (eu_tup (ea_cons ev_c (ea_cons (ev_un ev_c ru_neg) (ea_cons ev_c ea_nil))) (by show 3 ≤ 100000; decide))) (fun _ _ => ev_c) fun r H11 e11 R => v_word (w := 3) (o := some 300) (by decide) rfl (.inr ⟨r, _, rfl, R, by decide, by decide, barOk, .inr (.inr (.inr (.inr (.inr ⟨rfl, rfl, ruv_neg, rfl⟩))))⟩)) ev_c (rv_neSame _))) rfl) fun _ => et_is (et_test (ev_op (ev_cVLC (x := .int (2 : Nat)) (xs := [.non]) ev_c (el_lst (ea_cons ev_c ea_nil) (by show 1 ≤ 100000; decide)) (fun _ _ => ev_c) fun p H11 e11 gp => v_bad0 (o := some 0) (by decide) rfl (non_bad gp)) ev_c (rv_neSame _))) rfl) (fun h => nomatch h) fun _ H11 e11 => ?_
    refine q_when (b := false) (et_or (a := false) (b := false) (et_is (et_test (ev_op (ev_cVLC (x := .int (3 : Nat)) (xs := [.non]) ev_c (el_lst (ea_cons ev_c ea_nil) (by show 1 ≤ 100000; decide)) (fun _ _ => ev_c) fun p H11 e11 gp => v_bad0 (o := some 0) (by decide) rfl (non_bad gp)) ev_c (rv_neSame _))) rfl) fun _ => et_is (et_test (ev_op (ev_cVRC (x := .int (3 : Nat)) ev_c (er_lst1 (x := ⟨1, 1, 301⟩) (eu_tup (ea_cons ev_c (ea_cons ev_c (ea_cons ev_c ea_nil))) (by show 3 ≤ 100000; decide))) (fun _ _ => ev_c) fun r H11 e11 R => v_bad0 (w := 3) (o := none) (by decide) (.inl rfl) (bad_list R ⟨⟨1, 1, 301⟩, rfl, .inr (fun h => absurd (h.r rfl).2 (by decide)), fun k u hk => absurd hk (by omega)⟩ (fun t h => by rw [List.mem_singleton.mp h]; decide) (by decide))) ev_c (rv_neSame _))) rfl) (fun h => nomatch h) fun _ H12 e12 => ?_
    have pk12 := pk8.ex ((e9.trans e10).trans (e11.trans e12))
    refine q_when (b := false) (et_is (et_test (ev_neTT (as := List.replicate 4 [116, 101, 114, 109, 51]) (bs := List.replicate 4 [116, 101, 114, 109, 51]) (strsOk_of rfl) (strsOk_of rfl) (el_is (el_lcR1 (n := 4) (fun _ => true) (fun _ => .str (S [116, 101, 114, 109, 51])) (ea_cons ev_c ea_nil) (by decide) (fun _ => rfl) (fun _ _ _ _ => et_yes) ?_) (given_const 4 _)) (el_is (el_rep (n := 4) (xs := [.str (S [116, 101, 114, 109, 51])]) (el_lst (ea_cons ev_c ea_nil) (by show 1 ≤ 100000; decide)) (fun _ _ => ev_c) (by decide) (by decide) (by decide)) rfl))) (by simp)) (fun h => nomatch h) fun _ H13 e13 => ?_
    · intro i H13 e13 hi _
      refine ev_cVLC (x := .int (i : Int)) (xs := [.ref a0, .ref a0, .ref a0] ++ .non :: List.replicate 12 (.ref a0)) (ev_var rfl) (el_is (el_catNN (el_catNN (el_rep (n := 3) (xs := [.ref a0]) (el_lst (ea_cons (ev_op (ev_var rfl) ev_c (rv_ixL (i := 0) (v := .ref a0) (sq_of (pk12.ex e13).gg) rfl)) ea_nil) (by show 1 ≤ 100000; decide)) (fun _ _ => ev_c) (by decide) (by show 1 * 3 ≤ 100000; decide) (by decide)) (el_lst (ea_cons ev_c ea_nil) (by show 1 ≤ 100000; decide)) (by show 3 + 1 ≤ 100000; decide)) (el_rep (n := 12) (xs := [.ref a0]) (el_lst (ea_cons (ev_op (ev_var rfl) ev_c (rv_ixL (i := 0) (v := .ref a0) (sq_of (pk12.ex e13).gg) rfl)) ea_nil) (by show 1 ≤ 100000; decide)) (fun _ _ => ev_c) (by decide) (by show 1 * 12 ≤ 100000; decide) (by decide)) (by show 4 + 12 ≤ 100000; decide)) rfl) (fun _ _ => ev_c) fun p H14 e14 gp => v_bad3 (by omega) (.inr ⟨p, _, rfl, gp, bad_rep (K := K) (xs := [.ref a0, .ref a0, .ref a0]) (ys := .non :: List.replicate 12 (.ref a0)) (n := 3) rfl (by show 13 ≤ 50; decide) (fun v hv => ?_) (.inr ⟨by decide, .non, _, rfl, jt_non⟩)⟩)
      simp only [List.mem_cons, List.not_mem_nil, or_false, or_self] at hv
      rw [hv]
      exact (pk12.ex (e13.trans e14)).j0
    refine s_ret (v := .bl true) (ev_is (ev_eqTT (as := List.replicate 4 []) (bs := List.replicate 4 []) (strsOk_of rfl) (strsOk_of rfl) (el_is (el_lcR1 (n := 4) (fun _ => true) (fun _ => .str (S [])) (ea_cons ev_c ea_nil) (by decide) (fun _ => rfl) (fun _ _ _ _ => et_yes) ?_) (given_const 4 _)) (el_is (el_rep (n := 4) (xs := [.str (S [])]) (el_lst (ea_cons ev_c ea_nil) (by show 1 ≤ 100000; decide)) (fun _ _ => ev_c) (by decide) (by decide) (by decide)) rfl)) (by simp)) fun H14 e14 => q H14 (b7.trans (But.ex ((e8.trans (e9.trans e10)).trans ((e11.trans e12).trans (e13.trans e14)))))
    intro i H14 e14 hi _
    have pk14 := pk12.ex (e13.trans e14)
    refine ev_cVLC (x := .int (i : Int)) (xs := [.ref a2, .ref a3, .ref a0]) (ev_var rfl) (el_is (el_catNN (el_sl (ev_var rfl) (eo_some ev_c) eo_none (sq_of pk14.gg)) (el_lst (ea_cons (ev_op (ev_var rfl) ev_c (rv_ixL (i := 0) (v := .ref a0) (sq_of pk14.gg) rfl)) ea_nil) (by show 1 ≤ 100000; decide)) (by show 2 + 1 ≤ 100000; decide)) rfl) (fun _ _ => ev_c) fun p H15 e15 gp => ?_
    refine v_word (o := some 300) (by omega) rfl (.inr ⟨p, calm3, rfl, (pk14.ex e15).calm gp, by decide, by decide, calm3_tm, ?_⟩)
    by_cases c2 : i < 2
    · exact .inl ⟨c2, calm3_ok, rfl⟩
    · by_cases c3 : i = 2
      · exact .inr (.inl ⟨c3, rfl, rfl⟩)
      · exact .inr (.inr (.inr (.inr (.inl ⟨by omega, rfl, calm3_ok, rfl⟩))))
/-! ### law -/
def sp_law (K : PySem.W.Frag) : Sp := fun vs H Q _ => ∃ (a : Addr) (ns : List Int), vs = [.ref a] ∧ SqL K H a (vi ns) ∧ ns.length ≤ 63 ∧ ∀ H', Q (.bl true) H'
theorem ok_law (T : Txt K mg) : FnG PP w K mg base CX0 10 T.a_law T.d_law ["script"] (sp_law K) := by
  refine okG T.F_law sc_law (fun vs H Q E h => ?_) (fun cdv A out s H vs Q E hr h => ?_)
  · obtain ⟨a, ns, rfl, hS, hl, q⟩ := h
    rfl
  · obtain ⟨a, ns, rfl, hS, hl, q⟩ := h
    refine ⟨_, (pss_cons (ps_for PassesOwn.never rfl (pi_range1 (by rfl) T.z_range (pa_cons (pe_callB (call_max2 rfl) (by rfl) T.z_max bt_max (pa_cons pe_int (pa_cons (pe_callB (call_min2 rfl) (by rfl) T.z_min bt_min (pa_cons pe_int (pa_cons (pe_callB (call_lenK (K := K) rfl) (by rfl) T.z_len bt_len (pa_cons (pv 0) pa_nil)) pa_nil))) pa_nil))) pa_nil)) (pg_name (i := 1) sc_law.nd rfl (.inl rfl))
      (pss_one (ps_if (pt_not (pt_val (callG (ok_law_right T) (hr.mono (by decide)) (by rfl) T.g_law_right T.F_law_right.kp (b_law_right T) .nil pass0 (pa_cons (callG (ok_law_pot T) (hr.mono (by decide)) (by rfl) T.g_law_pot T.F_law_pot.kp (b_law_pot T) .nil pass0 (pa_cons (pv 0) (pa_cons (pv 1) pa_nil))) pa_nil))))
        (pss_one (ps_ret pe_bl))
        pss_nil)))
    (pss_one (ps_ret pe_bl))), ?_⟩
    refine q_forR1 (ea_cons (ev_max2 ev_c (ev_min2 ev_c (ev_len (ev_var rfl) hS))) ea_nil) ?_ (fun i σ' H' => ∃ y1, σ' = [some (.ref a), y1] ∧ Ex H H') ?_ ?_ ?_
    · split <;> split <;> omega
    · intro H1 e1
      exact ⟨_, rfl, e1⟩
    · rintro i σ' H' hi ⟨y1, rfl, e⟩
      have h6 : (i : Int) < 64 := by
        split at hi <;> split at hi <;> omega
      refine ⟨.ref a, rfl, .int i, rfl, a, ns, i, rfl, ex_l e hS, by omega, by omega, fun p H1 hp e1 hw => ?_⟩
      refine ⟨p, 0, rfl, hw, by decide, fun H2 b2 => ⟨true, rfl, iteF ?_⟩⟩
      exact ⟨_, rfl, e.trans (ex_but e1 hp b2)⟩
    · rintro σ' H' ⟨y1, rfl, e⟩
      exact s_ret ev_c fun H2 _ => q H2
end
theorem all_mk {w : World} {K : PySem.W.Frag} {h : Heap} {mg : Str → Option Value} {fa : Addr} (X : K.In h) (G : h.Ns mainGlobals mg) (hfa : mg "law" = some (.ref fa))
    {f0 : Addr} {od0 an0 : Option Addr} {sl0 : Array (Option Value)} {oc0 kV0 dc0 pm0 cd0 ct0 : Value}
    (a0 : PySem.W.nsIn K mainGlobals "is_whole" = some (some (.ref f0))) (l0 : K.lookup f0 = some ⟨oc0, od0, .func (PySem.W.fnOf "is_whole" "is_whole" (defArgs s_is_whole) (defBody s_is_whole) (defScope s_is_whole) .none kV0 dc0 pm0 an0 cd0 ct0), sl0⟩) (c0 : PySem.W.codeIn K cd0 "is_whole" = true) (k0 : PySem.W.keepIn K (.ref f0) = true)
    {f1 : Addr} {od1 an1 : Option Addr} {sl1 : Array (Option Value)} {oc1 kV1 dc1 pm1 cd1 ct1 : Value}
    (a1 : PySem.W.nsIn K mainGlobals "to_power" = some (some (.ref f1))) (l1 : K.lookup f1 = some ⟨oc1, od1, .func (PySem.W.fnOf "to_power" "to_power" (defArgs s_to_power) (defBody s_to_power) (defScope s_to_power) .none kV1 dc1 pm1 an1 cd1 ct1), sl1⟩) (c1 : PySem.W.codeIn K cd1 "to_power" = true) (k1 : PySem.W.keepIn K (.ref f1) = true)
    {f2 : Addr} {od2 an2 : Option Addr} {sl2 : Array (Option Value)} {oc2 kV2 dc2 pm2 cd2 ct2 : Value}
    (a2 : PySem.W.nsIn K mainGlobals "_signed_divisors" = some (some (.ref f2))) (l2 : K.lookup f2 = some ⟨oc2, od2, .func (PySem.W.fnOf "_signed_divisors" "_signed_divisors" (defArgs s_signed_divisors) (defBody s_signed_divisors) (defScope s_signed_divisors) .none kV2 dc2 pm2 an2 cd2 ct2), sl2⟩) (c2 : PySem.W.codeIn K cd2 "_signed_divisors" = true) (k2 : PySem.W.keepIn K (.ref f2) = true)
    {f3 : Addr} {od3 an3 : Option Addr} {sl3 : Array (Option Value)} {oc3 kV3 dc3 pm3 cd3 ct3 : Value}
    (a3 : PySem.W.nsIn K mainGlobals "_weights" = some (some (.ref f3))) (l3 : K.lookup f3 = some ⟨oc3, od3, .func (PySem.W.fnOf "_weights" "_weights" (defArgs s_weights) (defBody s_weights) (defScope s_weights) .none kV3 dc3 pm3 an3 cd3 ct3), sl3⟩) (c3 : PySem.W.codeIn K cd3 "_weights" = true) (k3 : PySem.W.keepIn K (.ref f3) = true)
    {f4 : Addr} {od4 an4 : Option Addr} {sl4 : Array (Option Value)} {oc4 kV4 dc4 pm4 cd4 ct4 : Value}
    (a4 : PySem.W.nsIn K mainGlobals "_next_doubt" = some (some (.ref f4))) (l4 : K.lookup f4 = some ⟨oc4, od4, .func (PySem.W.fnOf "_next_doubt" "_next_doubt" (defArgs s_next_doubt) (defBody s_next_doubt) (defScope s_next_doubt) .none kV4 dc4 pm4 an4 cd4 ct4), sl4⟩) (c4 : PySem.W.codeIn K cd4 "_next_doubt" = true) (k4 : PySem.W.keepIn K (.ref f4) = true)
    {f5 : Addr} {od5 an5 : Option Addr} {sl5 : Array (Option Value)} {oc5 kV5 dc5 pm5 cd5 ct5 : Value}
    (a5 : PySem.W.nsIn K mainGlobals "_counts_of" = some (some (.ref f5))) (l5 : K.lookup f5 = some ⟨oc5, od5, .func (PySem.W.fnOf "_counts_of" "_counts_of" (defArgs s_counts_of) (defBody s_counts_of) (defScope s_counts_of) .none kV5 dc5 pm5 an5 cd5 ct5), sl5⟩) (c5 : PySem.W.codeIn K cd5 "_counts_of" = true) (k5 : PySem.W.keepIn K (.ref f5) = true)
    {f6 : Addr} {od6 an6 : Option Addr} {sl6 : Array (Option Value)} {oc6 kV6 dc6 pm6 cd6 ct6 : Value}
    (a6 : PySem.W.nsIn K mainGlobals "_powers" = some (some (.ref f6))) (l6 : K.lookup f6 = some ⟨oc6, od6, .func (PySem.W.fnOf "_powers" "_powers" (defArgs s_powers) (defBody s_powers) (defScope s_powers) .none kV6 dc6 pm6 an6 cd6 ct6), sl6⟩) (c6 : PySem.W.codeIn K cd6 "_powers" = true) (k6 : PySem.W.keepIn K (.ref f6) = true)
    {f7 : Addr} {od7 an7 : Option Addr} {sl7 : Array (Option Value)} {oc7 kV7 dc7 pm7 cd7 ct7 : Value}
    (a7 : PySem.W.nsIn K mainGlobals "_law_pot" = some (some (.ref f7))) (l7 : K.lookup f7 = some ⟨oc7, od7, .func (PySem.W.fnOf "_law_pot" "_law_pot" (defArgs s_law_pot) (defBody s_law_pot) (defScope s_law_pot) .none kV7 dc7 pm7 an7 cd7 ct7), sl7⟩) (c7 : PySem.W.codeIn K cd7 "_law_pot" = true) (k7 : PySem.W.keepIn K (.ref f7) = true)
    {f8 : Addr} {od8 an8 : Option Addr} {sl8 : Array (Option Value)} {oc8 kV8 dc8 pm8 cd8 ct8 : Value}
    (a8 : PySem.W.nsIn K mainGlobals "_law_dip" = some (some (.ref f8))) (l8 : K.lookup f8 = some ⟨oc8, od8, .func (PySem.W.fnOf "_law_dip" "_law_dip" (defArgs s_law_dip) (defBody s_law_dip) (defScope s_law_dip) .none kV8 dc8 pm8 an8 cd8 ct8), sl8⟩) (c8 : PySem.W.codeIn K cd8 "_law_dip" = true) (k8 : PySem.W.keepIn K (.ref f8) = true)
    {f9 : Addr} {od9 an9 : Option Addr} {sl9 : Array (Option Value)} {oc9 kV9 dc9 pm9 cd9 ct9 : Value}
    (a9 : PySem.W.nsIn K mainGlobals "is_from_to" = some (some (.ref f9))) (l9 : K.lookup f9 = some ⟨oc9, od9, .func (PySem.W.fnOf "is_from_to" "is_from_to" (defArgs s_is_from_to) (defBody s_is_from_to) (defScope s_is_from_to) .none kV9 dc9 pm9 an9 cd9 ct9), sl9⟩) (c9 : PySem.W.codeIn K cd9 "is_from_to" = true) (k9 : PySem.W.keepIn K (.ref f9) = true)
    {f10 : Addr} {od10 an10 : Option Addr} {sl10 : Array (Option Value)} {oc10 kV10 dc10 pm10 cd10 ct10 : Value}
    (a10 : PySem.W.nsIn K mainGlobals "check_row" = some (some (.ref f10))) (l10 : K.lookup f10 = some ⟨oc10, od10, .func (PySem.W.fnOf "check_row" "check_row" (defArgs s_check_row) (defBody s_check_row) (defScope s_check_row) .none kV10 dc10 pm10 an10 cd10 ct10), sl10⟩) (c10 : PySem.W.codeIn K cd10 "check_row" = true) (k10 : PySem.W.keepIn K (.ref f10) = true)
    {f11 : Addr} {od11 an11 : Option Addr} {sl11 : Array (Option Value)} {oc11 kV11 dc11 pm11 cd11 ct11 : Value}
    (a11 : PySem.W.nsIn K mainGlobals "new_number" = some (some (.ref f11))) (l11 : K.lookup f11 = some ⟨oc11, od11, .func (PySem.W.fnOf "new_number" "new_number" (defArgs s_new_number) (defBody s_new_number) (defScope s_new_number) .none kV11 dc11 pm11 an11 cd11 ct11), sl11⟩) (c11 : PySem.W.codeIn K cd11 "new_number" = true) (k11 : PySem.W.keepIn K (.ref f11) = true)
    {f12 : Addr} {od12 an12 : Option Addr} {sl12 : Array (Option Value)} {oc12 kV12 dc12 pm12 cd12 ct12 : Value}
    (a12 : PySem.W.nsIn K mainGlobals "_strands" = some (some (.ref f12))) (l12 : K.lookup f12 = some ⟨oc12, od12, .func (PySem.W.fnOf "_strands" "_strands" (defArgs s_strands) (defBody s_strands) (defScope s_strands) .none kV12 dc12 pm12 an12 cd12 ct12), sl12⟩) (c12 : PySem.W.codeIn K cd12 "_strands" = true) (k12 : PySem.W.keepIn K (.ref f12) = true)
    {f13 : Addr} {od13 an13 : Option Addr} {sl13 : Array (Option Value)} {oc13 kV13 dc13 pm13 cd13 ct13 : Value}
    (a13 : PySem.W.nsIn K mainGlobals "_numbers_of_term" = some (some (.ref f13))) (l13 : K.lookup f13 = some ⟨oc13, od13, .func (PySem.W.fnOf "_numbers_of_term" "_numbers_of_term" (defArgs s_numbers_of_term) (defBody s_numbers_of_term) (defScope s_numbers_of_term) .none kV13 dc13 pm13 an13 cd13 ct13), sl13⟩) (c13 : PySem.W.codeIn K cd13 "_numbers_of_term" = true) (k13 : PySem.W.keepIn K (.ref f13) = true)
    {f14 : Addr} {od14 an14 : Option Addr} {sl14 : Array (Option Value)} {oc14 kV14 dc14 pm14 cd14 ct14 : Value}
    (a14 : PySem.W.nsIn K mainGlobals "is_term" = some (some (.ref f14))) (l14 : K.lookup f14 = some ⟨oc14, od14, .func (PySem.W.fnOf "is_term" "is_term" (defArgs s_is_term) (defBody s_is_term) (defScope s_is_term) .none kV14 dc14 pm14 an14 cd14 ct14), sl14⟩) (c14 : PySem.W.codeIn K cd14 "is_term" = true) (k14 : PySem.W.keepIn K (.ref f14) = true)
    {f15 : Addr} {od15 an15 : Option Addr} {sl15 : Array (Option Value)} {oc15 kV15 dc15 pm15 cd15 ct15 : Value}
    (a15 : PySem.W.nsIn K mainGlobals "first_below" = some (some (.ref f15))) (l15 : K.lookup f15 = some ⟨oc15, od15, .func (PySem.W.fnOf "first_below" "first_below" (defArgs s_first_below) (defBody s_first_below) (defScope s_first_below) .none kV15 dc15 pm15 an15 cd15 ct15), sl15⟩) (c15 : PySem.W.codeIn K cd15 "first_below" = true) (k15 : PySem.W.keepIn K (.ref f15) = true)
    {f16 : Addr} {od16 an16 : Option Addr} {sl16 : Array (Option Value)} {oc16 kV16 dc16 pm16 cd16 ct16 : Value}
    (a16 : PySem.W.nsIn K mainGlobals "new_numbers" = some (some (.ref f16))) (l16 : K.lookup f16 = some ⟨oc16, od16, .func (PySem.W.fnOf "new_numbers" "new_numbers" (defArgs s_new_numbers) (defBody s_new_numbers) (defScope s_new_numbers) .none kV16 dc16 pm16 an16 cd16 ct16), sl16⟩) (c16 : PySem.W.codeIn K cd16 "new_numbers" = true) (k16 : PySem.W.keepIn K (.ref f16) = true)
    {f17 : Addr} {od17 an17 : Option Addr} {sl17 : Array (Option Value)} {oc17 kV17 dc17 pm17 cd17 ct17 : Value}
    (a17 : PySem.W.nsIn K mainGlobals "_numbers" = some (some (.ref f17))) (l17 : K.lookup f17 = some ⟨oc17, od17, .func (PySem.W.fnOf "_numbers" "_numbers" (defArgs s_numbers) (defBody s_numbers) (defScope s_numbers) .none kV17 dc17 pm17 an17 cd17 ct17), sl17⟩) (c17 : PySem.W.codeIn K cd17 "_numbers" = true) (k17 : PySem.W.keepIn K (.ref f17) = true)
    {f18 : Addr} {od18 an18 : Option Addr} {sl18 : Array (Option Value)} {oc18 kV18 dc18 pm18 cd18 ct18 : Value}
    (a18 : PySem.W.nsIn K mainGlobals "check_many" = some (some (.ref f18))) (l18 : K.lookup f18 = some ⟨oc18, od18, .func (PySem.W.fnOf "check_many" "check_many" (defArgs s_check_many) (defBody s_check_many) (defScope s_check_many) .none kV18 dc18 pm18 an18 cd18 ct18), sl18⟩) (c18 : PySem.W.codeIn K cd18 "check_many" = true) (k18 : PySem.W.keepIn K (.ref f18) = true)
    {f19 : Addr} {od19 an19 : Option Addr} {sl19 : Array (Option Value)} {oc19 kV19 dc19 pm19 cd19 ct19 : Value}
    (a19 : PySem.W.nsIn K mainGlobals "check_number" = some (some (.ref f19))) (l19 : K.lookup f19 = some ⟨oc19, od19, .func (PySem.W.fnOf "check_number" "check_number" (defArgs s_check_number) (defBody s_check_number) (defScope s_check_number) .none kV19 dc19 pm19 an19 cd19 ct19), sl19⟩) (c19 : PySem.W.codeIn K cd19 "check_number" = true) (k19 : PySem.W.keepIn K (.ref f19) = true)
    {f20 : Addr} {od20 an20 : Option Addr} {sl20 : Array (Option Value)} {oc20 kV20 dc20 pm20 cd20 ct20 : Value}
    (a20 : PySem.W.nsIn K mainGlobals "check_rule" = some (some (.ref f20))) (l20 : K.lookup f20 = some ⟨oc20, od20, .func (PySem.W.fnOf "check_rule" "check_rule" (defArgs s_check_rule) (defBody s_check_rule) (defScope s_check_rule) .none kV20 dc20 pm20 an20 cd20 ct20), sl20⟩) (c20 : PySem.W.codeIn K cd20 "check_rule" = true) (k20 : PySem.W.keepIn K (.ref f20) = true)
    {f21 : Addr} {od21 an21 : Option Addr} {sl21 : Array (Option Value)} {oc21 kV21 dc21 pm21 cd21 ct21 : Value}
    (a21 : PySem.W.nsIn K mainGlobals "first_bar" = some (some (.ref f21))) (l21 : K.lookup f21 = some ⟨oc21, od21, .func (PySem.W.fnOf "first_bar" "first_bar" (defArgs s_first_bar) (defBody s_first_bar) (defScope s_first_bar) .none kV21 dc21 pm21 an21 cd21 ct21), sl21⟩) (c21 : PySem.W.codeIn K cd21 "first_bar" = true) (k21 : PySem.W.keepIn K (.ref f21) = true)
    {f22 : Addr} {od22 an22 : Option Addr} {sl22 : Array (Option Value)} {oc22 kV22 dc22 pm22 cd22 ct22 : Value}
    (a22 : PySem.W.nsIn K mainGlobals "told" = some (some (.ref f22))) (l22 : K.lookup f22 = some ⟨oc22, od22, .func (PySem.W.fnOf "told" "told" (defArgs s_told) (defBody s_told) (defScope s_told) .none kV22 dc22 pm22 an22 cd22 ct22), sl22⟩) (c22 : PySem.W.codeIn K cd22 "told" = true) (k22 : PySem.W.keepIn K (.ref f22) = true)
    {f23 : Addr} {od23 an23 : Option Addr} {sl23 : Array (Option Value)} {oc23 kV23 dc23 pm23 cd23 ct23 : Value}
    (a23 : PySem.W.nsIn K mainGlobals "first_bar_ever" = some (some (.ref f23))) (l23 : K.lookup f23 = some ⟨oc23, od23, .func (PySem.W.fnOf "first_bar_ever" "first_bar_ever" (defArgs s_first_bar_ever) (defBody s_first_bar_ever) (defScope s_first_bar_ever) .none kV23 dc23 pm23 an23 cd23 ct23), sl23⟩) (c23 : PySem.W.codeIn K cd23 "first_bar_ever" = true) (k23 : PySem.W.keepIn K (.ref f23) = true)
    {f24 : Addr} {od24 an24 : Option Addr} {sl24 : Array (Option Value)} {oc24 kV24 dc24 pm24 cd24 ct24 : Value}
    (a24 : PySem.W.nsIn K mainGlobals "is_turn_rule" = some (some (.ref f24))) (l24 : K.lookup f24 = some ⟨oc24, od24, .func (PySem.W.fnOf "is_turn_rule" "is_turn_rule" (defArgs s_is_turn_rule) (defBody s_is_turn_rule) (defScope s_is_turn_rule) .none kV24 dc24 pm24 an24 cd24 ct24), sl24⟩) (c24 : PySem.W.codeIn K cd24 "is_turn_rule" = true) (k24 : PySem.W.keepIn K (.ref f24) = true)
    {f25 : Addr} {od25 an25 : Option Addr} {sl25 : Array (Option Value)} {oc25 kV25 dc25 pm25 cd25 ct25 : Value}
    (a25 : PySem.W.nsIn K mainGlobals "rings_of" = some (some (.ref f25))) (l25 : K.lookup f25 = some ⟨oc25, od25, .func (PySem.W.fnOf "rings_of" "rings_of" (defArgs s_rings_of) (defBody s_rings_of) (defScope s_rings_of) .none kV25 dc25 pm25 an25 cd25 ct25), sl25⟩) (c25 : PySem.W.codeIn K cd25 "rings_of" = true) (k25 : PySem.W.keepIn K (.ref f25) = true)
    {f26 : Addr} {od26 an26 : Option Addr} {sl26 : Array (Option Value)} {oc26 kV26 dc26 pm26 cd26 ct26 : Value}
    (a26 : PySem.W.nsIn K mainGlobals "_law_call" = some (some (.ref f26))) (l26 : K.lookup f26 = some ⟨oc26, od26, .func (PySem.W.fnOf "_law_call" "_law_call" (defArgs s_law_call) (defBody s_law_call) (defScope s_law_call) .none kV26 dc26 pm26 an26 cd26 ct26), sl26⟩) (c26 : PySem.W.codeIn K cd26 "_law_call" = true) (k26 : PySem.W.keepIn K (.ref f26) = true)
    {f27 : Addr} {od27 an27 : Option Addr} {sl27 : Array (Option Value)} {oc27 kV27 dc27 pm27 cd27 ct27 : Value}
    (a27 : PySem.W.nsIn K mainGlobals "_law_word" = some (some (.ref f27))) (l27 : K.lookup f27 = some ⟨oc27, od27, .func (PySem.W.fnOf "_law_word" "_law_word" (defArgs s_law_word) (defBody s_law_word) (defScope s_law_word) .none kV27 dc27 pm27 an27 cd27 ct27), sl27⟩) (c27 : PySem.W.codeIn K cd27 "_law_word" = true) (k27 : PySem.W.keepIn K (.ref f27) = true)
    {f28 : Addr} {od28 an28 : Option Addr} {sl28 : Array (Option Value)} {oc28 kV28 dc28 pm28 cd28 ct28 : Value}
    (a28 : PySem.W.nsIn K mainGlobals "_law_right" = some (some (.ref f28))) (l28 : K.lookup f28 = some ⟨oc28, od28, .func (PySem.W.fnOf "_law_right" "_law_right" (defArgs s_law_right) (defBody s_law_right) (defScope s_law_right) .none kV28 dc28 pm28 an28 cd28 ct28), sl28⟩) (c28 : PySem.W.codeIn K cd28 "_law_right" = true) (k28 : PySem.W.keepIn K (.ref f28) = true)
    {f29 : Addr} {od29 an29 : Option Addr} {sl29 : Array (Option Value)} {oc29 kV29 dc29 pm29 cd29 ct29 : Value}
    (a29 : PySem.W.nsIn K mainGlobals "law" = some (some (.ref f29))) (l29 : K.lookup f29 = some ⟨oc29, od29, .func (PySem.W.fnOf "law" "law" (defArgs s_law) (defBody s_law) (defScope s_law) .none kV29 dc29 pm29 an29 cd29 ct29), sl29⟩) (c29 : PySem.W.codeIn K cd29 "law" = true) (k29 : PySem.W.keepIn K (.ref f29) = true)
    {t_MOST_COUNT : Tok} (m_MOST_COUNT : PySem.W.nsIn K mainGlobals "MOST_COUNT" = some (some (.int (1000000) t_MOST_COUNT)))
    {t_MOST_NUMBERS : Tok} (m_MOST_NUMBERS : PySem.W.nsIn K mainGlobals "MOST_NUMBERS" = some (some (.int (300) t_MOST_NUMBERS)))
    {t_MOST_TERMS : Tok} (m_MOST_TERMS : PySem.W.nsIn K mainGlobals "MOST_TERMS" = some (some (.int (12) t_MOST_TERMS)))
    {t__NEAR : Tok} (m__NEAR : PySem.W.nsIn K mainGlobals "_NEAR" = some (some (.int (24) t__NEAR)))
    {u_KINDS : Addr} {v_KINDS : Option Addr} {w_KINDS : Nat} {x_KINDS : Array (Option Value)} 
    {u_KINDS_0 : Addr} {v_KINDS_0 : Option Addr} {w_KINDS_0 : Nat} {x_KINDS_0 : Array (Option Value)}  {tk_KINDS_0_0 : Tok} {tk_KINDS_0_1 : Tok} {tk_KINDS_0_2 : Tok}
    {u_KINDS_1 : Addr} {v_KINDS_1 : Option Addr} {w_KINDS_1 : Nat} {x_KINDS_1 : Array (Option Value)}  {tk_KINDS_1_0 : Tok} {tk_KINDS_1_1 : Tok} {tk_KINDS_1_2 : Tok}
    {u_KINDS_2 : Addr} {v_KINDS_2 : Option Addr} {w_KINDS_2 : Nat} {x_KINDS_2 : Array (Option Value)}  {tk_KINDS_2_0 : Tok} {tk_KINDS_2_1 : Tok} {tk_KINDS_2_2 : Tok}
    (zt_KINDS : PySem.W.nsIn K mainGlobals "KINDS" = some (some (.ref u_KINDS)))
    (yt_KINDS : K.lookup u_KINDS = some ⟨.type "tuple", v_KINDS, .seq #[.ref u_KINDS_0, .ref u_KINDS_1, .ref u_KINDS_2] w_KINDS, x_KINDS⟩)
    (yt_KINDS_0 : K.lookup u_KINDS_0 = some ⟨.type "tuple", v_KINDS_0, .seq #[.str "power" tk_KINDS_0_0, .int (-40) tk_KINDS_0_1, .int (40) tk_KINDS_0_2] w_KINDS_0, x_KINDS_0⟩)
    (yt_KINDS_1 : K.lookup u_KINDS_1 = some ⟨.type "tuple", v_KINDS_1, .seq #[.str "ring" tk_KINDS_1_0, .int (1) tk_KINDS_1_1, .int (300) tk_KINDS_1_2] w_KINDS_1, x_KINDS_1⟩)
    (yt_KINDS_2 : K.lookup u_KINDS_2 = some ⟨.type "tuple", v_KINDS_2, .seq #[.str "places" tk_KINDS_2_0, .int (1) tk_KINDS_2_1, .int (6) tk_KINDS_2_2] w_KINDS_2, x_KINDS_2⟩)
    (z_abs : PySem.W.nsIn K mainGlobals "abs" = some none)
    (z_all : PySem.W.nsIn K mainGlobals "all" = some none)
    (z_any : PySem.W.nsIn K mainGlobals "any" = some none)
    (z_bool : PySem.W.nsIn K mainGlobals "bool" = some none)
    (z_enumerate : PySem.W.nsIn K mainGlobals "enumerate" = some none)
    (z_int : PySem.W.nsIn K mainGlobals "int" = some none)
    (z_isinstance : PySem.W.nsIn K mainGlobals "isinstance" = some none)
    (z_len : PySem.W.nsIn K mainGlobals "len" = some none)
    (z_list : PySem.W.nsIn K mainGlobals "list" = some none)
    (z_max : PySem.W.nsIn K mainGlobals "max" = some none)
    (z_min : PySem.W.nsIn K mainGlobals "min" = some none)
    (z_range : PySem.W.nsIn K mainGlobals "range" = some none)
    (z_repr : PySem.W.nsIn K mainGlobals "repr" = some none)
    (z_str : PySem.W.nsIn K mainGlobals "str" = some none)
    (z_sum : PySem.W.nsIn K mainGlobals "sum" = some none)
    (z_tuple : PySem.W.nsIn K mainGlobals "tuple" = some none)
    (z_zip : PySem.W.nsIn K mainGlobals "zip" = some none)
    {a_Barred : Addr} (ea_Barred : PySem.W.nsIn K mainGlobals "Barred" = some (some (.ref a_Barred)))
    (ek_Barred : PySem.W.keepIn K (.ref a_Barred) = true)
    (et_Barred : PySem.W.typeIn K (.ref a_Barred) = some (.type "type"))
    (es_Barred : PySem.W.subIn K (.ref a_Barred) (.ref a_Barred) = some true)
    (ev_Barred : PySem.W.subIn K (.ref a_Barred) (.type "ValueError") = some true)
    (e1_Barred : PySem.W.findIn K (.ref a_Barred) "__getattribute__" = some (some (.builtin "BaseException.__getattribute__")))
    (e2_Barred : PySem.W.findIn K (.ref a_Barred) "__getattr__" = some none)
    (e3_Barred : PySem.W.subIn K (.ref a_Barred) (.type "BaseException") = some true)
    (e4_Barred : PySem.W.hasDictIn K a_Barred = true)
    (e5_Barred : PySem.W.findIn K (.ref a_Barred) "__class__" = some (some (.builtin "object.__class__")))
    (e8_Barred : PySem.W.mroIn K a_Barred (.type "object") = some true)
    {a_NoMany : Addr} (ea_NoMany : PySem.W.nsIn K mainGlobals "NoMany" = some (some (.ref a_NoMany)))
    (ek_NoMany : PySem.W.keepIn K (.ref a_NoMany) = true)
    (et_NoMany : PySem.W.typeIn K (.ref a_NoMany) = some (.type "type"))
    (es_NoMany : PySem.W.subIn K (.ref a_NoMany) (.ref a_NoMany) = some true)
    (ev_NoMany : PySem.W.subIn K (.ref a_NoMany) (.type "ValueError") = some true)
    (e1_NoMany : PySem.W.findIn K (.ref a_NoMany) "__getattribute__" = some (some (.builtin "BaseException.__getattribute__")))
    (e2_NoMany : PySem.W.findIn K (.ref a_NoMany) "__getattr__" = some none)
    (e3_NoMany : PySem.W.subIn K (.ref a_NoMany) (.type "BaseException") = some true)
    (e4_NoMany : PySem.W.hasDictIn K a_NoMany = true)
    (e5_NoMany : PySem.W.findIn K (.ref a_NoMany) "__class__" = some (some (.builtin "object.__class__")))
    (e8_NoMany : PySem.W.mroIn K a_NoMany (.type "object") = some true)
    (x_NoMany : PySem.W.excIn K a_NoMany [.type "ValueError", .type "Exception", .type "BaseException", .type "object"] "ValueError.__new__" = true)
    {a_NoNumber : Addr} (ea_NoNumber : PySem.W.nsIn K mainGlobals "NoNumber" = some (some (.ref a_NoNumber)))
    (ek_NoNumber : PySem.W.keepIn K (.ref a_NoNumber) = true)
    (et_NoNumber : PySem.W.typeIn K (.ref a_NoNumber) = some (.type "type"))
    (es_NoNumber : PySem.W.subIn K (.ref a_NoNumber) (.ref a_NoNumber) = some true)
    (ev_NoNumber : PySem.W.subIn K (.ref a_NoNumber) (.type "ValueError") = some true)
    (e1_NoNumber : PySem.W.findIn K (.ref a_NoNumber) "__getattribute__" = some (some (.builtin "BaseException.__getattribute__")))
    (e2_NoNumber : PySem.W.findIn K (.ref a_NoNumber) "__getattr__" = some none)
    (e3_NoNumber : PySem.W.subIn K (.ref a_NoNumber) (.type "BaseException") = some true)
    (e4_NoNumber : PySem.W.hasDictIn K a_NoNumber = true)
    (e5_NoNumber : PySem.W.findIn K (.ref a_NoNumber) "__class__" = some (some (.builtin "object.__class__")))
    (e8_NoNumber : PySem.W.mroIn K a_NoNumber (.type "object") = some true)
    (x_NoNumber : PySem.W.excIn K a_NoNumber [.type "ValueError", .type "Exception", .type "BaseException", .type "object"] "ValueError.__new__" = true)
    {a_NoTerm : Addr} (ea_NoTerm : PySem.W.nsIn K mainGlobals "NoTerm" = some (some (.ref a_NoTerm)))
    (ek_NoTerm : PySem.W.keepIn K (.ref a_NoTerm) = true)
    (et_NoTerm : PySem.W.typeIn K (.ref a_NoTerm) = some (.type "type"))
    (es_NoTerm : PySem.W.subIn K (.ref a_NoTerm) (.ref a_NoTerm) = some true)
    (ev_NoTerm : PySem.W.subIn K (.ref a_NoTerm) (.type "ValueError") = some true)
    (e1_NoTerm : PySem.W.findIn K (.ref a_NoTerm) "__getattribute__" = some (some (.builtin "BaseException.__getattribute__")))
    (e2_NoTerm : PySem.W.findIn K (.ref a_NoTerm) "__getattr__" = some none)
    (e3_NoTerm : PySem.W.subIn K (.ref a_NoTerm) (.type "BaseException") = some true)
    (e4_NoTerm : PySem.W.hasDictIn K a_NoTerm = true)
    (e5_NoTerm : PySem.W.findIn K (.ref a_NoTerm) "__class__" = some (some (.builtin "object.__class__")))
    (e8_NoTerm : PySem.W.mroIn K a_NoTerm (.type "object") = some true)
    {a_RowError : Addr} (ea_RowError : PySem.W.nsIn K mainGlobals "RowError" = some (some (.ref a_RowError)))
    (ek_RowError : PySem.W.keepIn K (.ref a_RowError) = true)
    (et_RowError : PySem.W.typeIn K (.ref a_RowError) = some (.type "type"))
    (es_RowError : PySem.W.subIn K (.ref a_RowError) (.ref a_RowError) = some true)
    (ev_RowError : PySem.W.subIn K (.ref a_RowError) (.type "ValueError") = some true)
    (e1_RowError : PySem.W.findIn K (.ref a_RowError) "__getattribute__" = some (some (.builtin "BaseException.__getattribute__")))
    (e2_RowError : PySem.W.findIn K (.ref a_RowError) "__getattr__" = some none)
    (e3_RowError : PySem.W.subIn K (.ref a_RowError) (.type "BaseException") = some true)
    (e4_RowError : PySem.W.hasDictIn K a_RowError = true)
    (e5_RowError : PySem.W.findIn K (.ref a_RowError) "__class__" = some (some (.builtin "object.__class__")))
    (e8_RowError : PySem.W.mroIn K a_RowError (.type "object") = some true)
    (e6 : PySem.W.specialIn K (.builtin "object.__class__") "__get__" = some (some (.builtin "getset_descriptor.__get__"))) (e7 : PySem.W.takesIn K (.builtin "object.__class__") = some true)
    (no : PySem.W.nsIn K cStatics "thirdparty.any" = some none) (gS : PySem.W.nsIn K mainGlobals "super" = some none)
    {nm_Barred q_Barred : Str} {N_Barred : Addr} {bs_Barred bm_Barred : List Value} {sn_Barred : List Str} {sub_Barred : List Value} {ab_Barred : Bool} {col_Barred : Option Bool} {dd_Barred : Option Addr} {k0_Barred k1_Barred k2_Barred k3_Barred k5_Barred : Option Value} {fi_Barred cda_Barred cc_Barred : Addr}
    {qual_Barred : Str} {oc_Barred kV_Barred doc_Barred pm_Barred ct_Barred : Value} {od_Barred an_Barred : Option Addr} {osl_Barred csl_Barred ccs_Barred : Array (Option Value)} {cl_Barred ccl_Barred : Value} {cld_Barred cdd_Barred : Option Addr} {vs_Barred : Array Value} {file_Barred : Str} {tf_Barred : Tok}
    (lk_Barred : K.lookup a_Barred = some (excClassObj nm_Barred q_Barred a_Barred N_Barred bs_Barred bm_Barred true sn_Barred sub_Barred ab_Barred col_Barred dd_Barred k0_Barred k1_Barred k2_Barred k3_Barred k5_Barred "ValueError.__new__"))
    (rv_Barred : PySem.HandSPX.refsVE bm_Barred = true)
    (sa_Barred : PySem.W.findIn K (.ref a_Barred) "__setattr__" = some (some (.builtin "object.__setattr__")))
    (iC_Barred : PySem.W.findIn K (.ref a_Barred) "__init__" = some (some (.ref fi_Barred)))
    (tI_Barred : PySem.W.typeIn K (.ref fi_Barred) = some (.type "function"))
    (nf_Barred : PySem.W.findIn K (.ref a_Barred) "n" = some none)
    (up_Barred : PySem.W.ks_superIn K a_Barred a_Barred "__init__" = some (some (.builtin "ValueError.__init__")))
    (sC_Barred : PySem.W.mroIn K a_Barred (.ref a_Barred) = some true)
    (lI_Barred : K.lookup fi_Barred = some ⟨oc_Barred, od_Barred, .func (PySem.W.fnX "__init__" qual_Barred (defArgs c_Barred) (defBody c_Barred) (defScope c_Barred) [("__class__", cc_Barred)] .none kV_Barred doc_Barred pm_Barred an_Barred (.ref cda_Barred) ct_Barred), osl_Barred⟩)
    (cI_Barred : PySem.W.codeIn K (.ref cda_Barred) qual_Barred = true)
    (lC_Barred : K.lookup cc_Barred = some ⟨cl_Barred, cld_Barred, .cell (some (.ref a_Barred)), csl_Barred⟩)
    (lD_Barred : K.lookup cda_Barred = some ⟨ccl_Barred, cdd_Barred, .fields vs_Barred, ccs_Barred⟩)
    (hv_Barred : vs_Barred[2]? = some (.str file_Barred tf_Barred))
    (hf_Barred : ((PP.main.file : Str) == file_Barred) = true)
    {nm_NoTerm q_NoTerm : Str} {N_NoTerm : Addr} {bs_NoTerm bm_NoTerm : List Value} {sn_NoTerm : List Str} {sub_NoTerm : List Value} {ab_NoTerm : Bool} {col_NoTerm : Option Bool} {dd_NoTerm : Option Addr} {k0_NoTerm k1_NoTerm k2_NoTerm k3_NoTerm k5_NoTerm : Option Value} {fi_NoTerm cda_NoTerm cc_NoTerm : Addr}
    {qual_NoTerm : Str} {oc_NoTerm kV_NoTerm doc_NoTerm pm_NoTerm ct_NoTerm : Value} {od_NoTerm an_NoTerm : Option Addr} {osl_NoTerm csl_NoTerm ccs_NoTerm : Array (Option Value)} {cl_NoTerm ccl_NoTerm : Value} {cld_NoTerm cdd_NoTerm : Option Addr} {vs_NoTerm : Array Value} {file_NoTerm : Str} {tf_NoTerm : Tok}
    (lk_NoTerm : K.lookup a_NoTerm = some (excClassObj nm_NoTerm q_NoTerm a_NoTerm N_NoTerm bs_NoTerm bm_NoTerm true sn_NoTerm sub_NoTerm ab_NoTerm col_NoTerm dd_NoTerm k0_NoTerm k1_NoTerm k2_NoTerm k3_NoTerm k5_NoTerm "ValueError.__new__"))
    (rv_NoTerm : PySem.HandSPX.refsVE bm_NoTerm = true)
    (sa_NoTerm : PySem.W.findIn K (.ref a_NoTerm) "__setattr__" = some (some (.builtin "object.__setattr__")))
    (iC_NoTerm : PySem.W.findIn K (.ref a_NoTerm) "__init__" = some (some (.ref fi_NoTerm)))
    (tI_NoTerm : PySem.W.typeIn K (.ref fi_NoTerm) = some (.type "function"))
    (nf_NoTerm : PySem.W.findIn K (.ref a_NoTerm) "index" = some none)
    (up_NoTerm : PySem.W.ks_superIn K a_NoTerm a_NoTerm "__init__" = some (some (.builtin "ValueError.__init__")))
    (sC_NoTerm : PySem.W.mroIn K a_NoTerm (.ref a_NoTerm) = some true)
    (lI_NoTerm : K.lookup fi_NoTerm = some ⟨oc_NoTerm, od_NoTerm, .func (PySem.W.fnX "__init__" qual_NoTerm (defArgs c_NoTerm) (defBody c_NoTerm) (defScope c_NoTerm) [("__class__", cc_NoTerm)] .none kV_NoTerm doc_NoTerm pm_NoTerm an_NoTerm (.ref cda_NoTerm) ct_NoTerm), osl_NoTerm⟩)
    (cI_NoTerm : PySem.W.codeIn K (.ref cda_NoTerm) qual_NoTerm = true)
    (lC_NoTerm : K.lookup cc_NoTerm = some ⟨cl_NoTerm, cld_NoTerm, .cell (some (.ref a_NoTerm)), csl_NoTerm⟩)
    (lD_NoTerm : K.lookup cda_NoTerm = some ⟨ccl_NoTerm, cdd_NoTerm, .fields vs_NoTerm, ccs_NoTerm⟩)
    (hv_NoTerm : vs_NoTerm[2]? = some (.str file_NoTerm tf_NoTerm))
    (hf_NoTerm : ((PP.main.file : Str) == file_NoTerm) = true)
    (m_Barred_NoMany : PySem.W.subIn K (.ref a_Barred) (.ref a_NoMany) = some false)
    (m_Barred_NoNumber : PySem.W.subIn K (.ref a_Barred) (.ref a_NoNumber) = some false)
    (m_Barred_NoTerm : PySem.W.subIn K (.ref a_Barred) (.ref a_NoTerm) = some false)
    (m_Barred_RowError : PySem.W.subIn K (.ref a_Barred) (.ref a_RowError) = some true)
    (m_NoMany_Barred : PySem.W.subIn K (.ref a_NoMany) (.ref a_Barred) = some false)
    (m_NoMany_NoNumber : PySem.W.subIn K (.ref a_NoMany) (.ref a_NoNumber) = some false)
    (m_NoMany_NoTerm : PySem.W.subIn K (.ref a_NoMany) (.ref a_NoTerm) = some false)
    (m_NoMany_RowError : PySem.W.subIn K (.ref a_NoMany) (.ref a_RowError) = some true)
    (m_NoNumber_Barred : PySem.W.subIn K (.ref a_NoNumber) (.ref a_Barred) = some false)
    (m_NoNumber_NoMany : PySem.W.subIn K (.ref a_NoNumber) (.ref a_NoMany) = some false)
    (m_NoNumber_NoTerm : PySem.W.subIn K (.ref a_NoNumber) (.ref a_NoTerm) = some false)
    (m_NoNumber_RowError : PySem.W.subIn K (.ref a_NoNumber) (.ref a_RowError) = some true)
    (m_NoTerm_Barred : PySem.W.subIn K (.ref a_NoTerm) (.ref a_Barred) = some false)
    (m_NoTerm_NoMany : PySem.W.subIn K (.ref a_NoTerm) (.ref a_NoMany) = some false)
    (m_NoTerm_NoNumber : PySem.W.subIn K (.ref a_NoTerm) (.ref a_NoNumber) = some false)
    (m_NoTerm_RowError : PySem.W.subIn K (.ref a_NoTerm) (.ref a_RowError) = some true)
    : ∃ fd : FuncData, (∀ (s : Shared) (v : Value), BindsTo s fd ⟨[v], []⟩ [("script", v)]) ∧ ∀ base : Heap, K.In base → base.Ns mainGlobals mg → FnG PySem.Challenge.rw_backafter_k35_rules_refused.prog w K mg base CX0 10 fa fd ["script"] (sp_law K) := by
  have e := hfa.symm.trans (PySem.W.mg_of X G a29)
  cases e
  let T : Txt K mg := {
    a_is_whole := _
    d_is_whole := _
    F_is_whole := fun_mk (st := s_is_whole) l0 c0 k0
    g_is_whole := PySem.W.mg_of X G a0
    a_to_power := _
    d_to_power := _
    F_to_power := fun_mk (st := s_to_power) l1 c1 k1
    g_to_power := PySem.W.mg_of X G a1
    a_signed_divisors := _
    d_signed_divisors := _
    F_signed_divisors := fun_mk (st := s_signed_divisors) l2 c2 k2
    g_signed_divisors := PySem.W.mg_of X G a2
    a_weights := _
    d_weights := _
    F_weights := fun_mk (st := s_weights) l3 c3 k3
    g_weights := PySem.W.mg_of X G a3
    a_next_doubt := _
    d_next_doubt := _
    F_next_doubt := fun_mk (st := s_next_doubt) l4 c4 k4
    g_next_doubt := PySem.W.mg_of X G a4
    a_counts_of := _
    d_counts_of := _
    F_counts_of := fun_mk (st := s_counts_of) l5 c5 k5
    g_counts_of := PySem.W.mg_of X G a5
    a_powers := _
    d_powers := _
    F_powers := fun_mk (st := s_powers) l6 c6 k6
    g_powers := PySem.W.mg_of X G a6
    a_law_pot := _
    d_law_pot := _
    F_law_pot := fun_mk (st := s_law_pot) l7 c7 k7
    g_law_pot := PySem.W.mg_of X G a7
    a_law_dip := _
    d_law_dip := _
    F_law_dip := fun_mk (st := s_law_dip) l8 c8 k8
    g_law_dip := PySem.W.mg_of X G a8
    a_is_from_to := _
    d_is_from_to := _
    F_is_from_to := fun_mk (st := s_is_from_to) l9 c9 k9
    g_is_from_to := PySem.W.mg_of X G a9
    a_check_row := _
    d_check_row := _
    F_check_row := fun_mk (st := s_check_row) l10 c10 k10
    g_check_row := PySem.W.mg_of X G a10
    a_new_number := _
    d_new_number := _
    F_new_number := fun_mk (st := s_new_number) l11 c11 k11
    g_new_number := PySem.W.mg_of X G a11
    a_strands := _
    d_strands := _
    F_strands := fun_mk (st := s_strands) l12 c12 k12
    g_strands := PySem.W.mg_of X G a12
    a_numbers_of_term := _
    d_numbers_of_term := _
    F_numbers_of_term := fun_mk (st := s_numbers_of_term) l13 c13 k13
    g_numbers_of_term := PySem.W.mg_of X G a13
    a_is_term := _
    d_is_term := _
    F_is_term := fun_mk (st := s_is_term) l14 c14 k14
    g_is_term := PySem.W.mg_of X G a14
    a_first_below := _
    d_first_below := _
    F_first_below := fun_mk (st := s_first_below) l15 c15 k15
    g_first_below := PySem.W.mg_of X G a15
    a_new_numbers := _
    d_new_numbers := _
    F_new_numbers := fun_mk (st := s_new_numbers) l16 c16 k16
    g_new_numbers := PySem.W.mg_of X G a16
    a_numbers := _
    d_numbers := _
    F_numbers := fun_mk (st := s_numbers) l17 c17 k17
    g_numbers := PySem.W.mg_of X G a17
    a_check_many := _
    d_check_many := _
    F_check_many := fun_mk (st := s_check_many) l18 c18 k18
    g_check_many := PySem.W.mg_of X G a18
    a_check_number := _
    d_check_number := _
    F_check_number := fun_mk (st := s_check_number) l19 c19 k19
    g_check_number := PySem.W.mg_of X G a19
    a_check_rule := _
    d_check_rule := _
    F_check_rule := fun_mk (st := s_check_rule) l20 c20 k20
    g_check_rule := PySem.W.mg_of X G a20
    a_first_bar := _
    d_first_bar := _
    F_first_bar := fun_mk (st := s_first_bar) l21 c21 k21
    g_first_bar := PySem.W.mg_of X G a21
    a_told := _
    d_told := _
    F_told := fun_mk (st := s_told) l22 c22 k22
    g_told := PySem.W.mg_of X G a22
    a_first_bar_ever := _
    d_first_bar_ever := _
    F_first_bar_ever := fun_mk (st := s_first_bar_ever) l23 c23 k23
    g_first_bar_ever := PySem.W.mg_of X G a23
    a_is_turn_rule := _
    d_is_turn_rule := _
    F_is_turn_rule := fun_mk (st := s_is_turn_rule) l24 c24 k24
    g_is_turn_rule := PySem.W.mg_of X G a24
    a_rings_of := _
    d_rings_of := _
    F_rings_of := fun_mk (st := s_rings_of) l25 c25 k25
    g_rings_of := PySem.W.mg_of X G a25
    a_law_call := _
    d_law_call := _
    F_law_call := fun_mk (st := s_law_call) l26 c26 k26
    g_law_call := PySem.W.mg_of X G a26
    a_law_word := _
    d_law_word := _
    F_law_word := fun_mk (st := s_law_word) l27 c27 k27
    g_law_word := PySem.W.mg_of X G a27
    a_law_right := _
    d_law_right := _
    F_law_right := fun_mk (st := s_law_right) l28 c28 k28
    g_law_right := PySem.W.mg_of X G a28
    a_law := _
    d_law := _
    F_law := fun_mk (st := s_law) l29 c29 k29
    g_law := PySem.W.mg_of X G a29
    t_MOST_COUNT := t_MOST_COUNT
    c_MOST_COUNT := PySem.W.mg_of X G m_MOST_COUNT
    t_MOST_NUMBERS := t_MOST_NUMBERS
    c_MOST_NUMBERS := PySem.W.mg_of X G m_MOST_NUMBERS
    t_MOST_TERMS := t_MOST_TERMS
    c_MOST_TERMS := PySem.W.mg_of X G m_MOST_TERMS
    t__NEAR := t__NEAR
    c__NEAR := PySem.W.mg_of X G m__NEAR
    a_KINDS := u_KINDS
    g_KINDS := PySem.W.mg_of X G zt_KINDS
    q_KINDS := frt3 yt_KINDS rfl rfl rfl
    a_KINDS_0 := u_KINDS_0
    q_KINDS_0 := frt3 yt_KINDS_0 ⟨_, rfl⟩ ⟨_, rfl⟩ ⟨_, rfl⟩
    a_KINDS_1 := u_KINDS_1
    q_KINDS_1 := frt3 yt_KINDS_1 ⟨_, rfl⟩ ⟨_, rfl⟩ ⟨_, rfl⟩
    a_KINDS_2 := u_KINDS_2
    q_KINDS_2 := frt3 yt_KINDS_2 ⟨_, rfl⟩ ⟨_, rfl⟩ ⟨_, rfl⟩
    z_abs := PySem.W.mg_none_of X G z_abs
    z_all := PySem.W.mg_none_of X G z_all
    z_any := PySem.W.mg_none_of X G z_any
    z_bool := PySem.W.mg_none_of X G z_bool
    z_enumerate := PySem.W.mg_none_of X G z_enumerate
    z_int := PySem.W.mg_none_of X G z_int
    z_isinstance := PySem.W.mg_none_of X G z_isinstance
    z_len := PySem.W.mg_none_of X G z_len
    z_list := PySem.W.mg_none_of X G z_list
    z_max := PySem.W.mg_none_of X G z_max
    z_min := PySem.W.mg_none_of X G z_min
    z_range := PySem.W.mg_none_of X G z_range
    z_repr := PySem.W.mg_none_of X G z_repr
    z_str := PySem.W.mg_none_of X G z_str
    z_sum := PySem.W.mg_none_of X G z_sum
    z_tuple := PySem.W.mg_none_of X G z_tuple
    z_zip := PySem.W.mg_none_of X G z_zip
    a_Barred := a_Barred
    e_Barred := err_mk X G ea_Barred ek_Barred et_Barred es_Barred ev_Barred e1_Barred e2_Barred e3_Barred e4_Barred e5_Barred e6 e7 e8_Barred
    a_NoMany := a_NoMany
    e_NoMany := err_mk X G ea_NoMany ek_NoMany et_NoMany es_NoMany ev_NoMany e1_NoMany e2_NoMany e3_NoMany e4_NoMany e5_NoMany e6 e7 e8_NoMany
    x_NoMany := x_NoMany
    a_NoNumber := a_NoNumber
    e_NoNumber := err_mk X G ea_NoNumber ek_NoNumber et_NoNumber es_NoNumber ev_NoNumber e1_NoNumber e2_NoNumber e3_NoNumber e4_NoNumber e5_NoNumber e6 e7 e8_NoNumber
    x_NoNumber := x_NoNumber
    a_NoTerm := a_NoTerm
    e_NoTerm := err_mk X G ea_NoTerm ek_NoTerm et_NoTerm es_NoTerm ev_NoTerm e1_NoTerm e2_NoTerm e3_NoTerm e4_NoTerm e5_NoTerm e6 e7 e8_NoTerm
    a_RowError := a_RowError
    e_RowError := err_mk X G ea_RowError ek_RowError et_RowError es_RowError ev_RowError e1_RowError e2_RowError e3_RowError e4_RowError e5_RowError e6 e7 e8_RowError
    fi_Barred := _
    fd_Barred := _
    s_Barred := sup_mk X G lk_Barred rv_Barred sa_Barred e3_Barred et_Barred ek_Barred iC_Barred tI_Barred nf_Barred up_Barred ev_Barred sC_Barred no gS lI_Barred cI_Barred lC_Barred lD_Barred hv_Barred hf_Barred (by decide +kernel) ⟨_, rfl, rfl⟩ ⟨_, _, _, _, _, _, _, _, _, _, _, _, rfl, fun _ => ⟨_, rfl⟩, fun _ => rfl⟩ ss_Barred
    sb_Barred := fun s us hK hl => match us, hl with | [_, _], _ => .of_eq rfl
    fi_NoTerm := _
    fd_NoTerm := _
    s_NoTerm := sup_mk X G lk_NoTerm rv_NoTerm sa_NoTerm e3_NoTerm et_NoTerm ek_NoTerm iC_NoTerm tI_NoTerm nf_NoTerm up_NoTerm ev_NoTerm sC_NoTerm no gS lI_NoTerm cI_NoTerm lC_NoTerm lD_NoTerm hv_NoTerm hf_NoTerm (by decide +kernel) ⟨_, rfl, rfl⟩ ⟨_, _, _, _, _, _, _, _, _, _, _, _, rfl, fun _ => ⟨_, rfl⟩, fun _ => rfl⟩ ss_NoTerm
    sb_NoTerm := fun s us hK hl => match us, hl with | [_, _], _ => .of_eq rfl
    m_Barred_NoMany := m_Barred_NoMany
    m_Barred_NoNumber := m_Barred_NoNumber
    m_Barred_NoTerm := m_Barred_NoTerm
    m_Barred_RowError := m_Barred_RowError
    m_NoMany_Barred := m_NoMany_Barred
    m_NoMany_NoNumber := m_NoMany_NoNumber
    m_NoMany_NoTerm := m_NoMany_NoTerm
    m_NoMany_RowError := m_NoMany_RowError
    m_NoNumber_Barred := m_NoNumber_Barred
    m_NoNumber_NoMany := m_NoNumber_NoMany
    m_NoNumber_NoTerm := m_NoNumber_NoTerm
    m_NoNumber_RowError := m_NoNumber_RowError
    m_NoTerm_Barred := m_NoTerm_Barred
    m_NoTerm_NoMany := m_NoTerm_NoMany
    m_NoTerm_NoNumber := m_NoTerm_NoNumber
    m_NoTerm_RowError := m_NoTerm_RowError }
  exact ⟨T.d_law, fun s v => .of_eq rfl, fun base _ _ => ok_law T⟩
end My
open PySem PySem.W PyProof.Rows
set_option maxHeartbeats 0 in
theorem PySem.Challenge.cw_backafter_k35_rules_refused_holds : PySem.Challenge.rw_backafter_k35_rules_refused.Holds := by
  w_on; o_law; k_head; (case hw => w_witness2)
  k_fill
  refine Bk.walkG (l := PySem.Challenge.rw_backafter_k35_rules_refused) (n := 63) (k := 10) (x := "script") (CX := fun _ => L2.CX0) (sp := fun w => My.sp_law _) rfl (by decide) rfl ⟨⟨rfl, by decide, by decide⟩, rfl⟩ (fun w h Y => PySem.W.kIn_of Y) ?F (fun _ _ a ns hl _ hS => ⟨a, ns, rfl, hS, hl, fun _ => rfl⟩) (fun _ _ _ _ _ h => h)
  case F =>
    intro w mg fa h KX G hmg
    refine' My.all_mk KX G hmg ?a0 ?l0 ?c0 ?k0 ?a1 ?l1 ?c1 ?k1 ?a2 ?l2 ?c2 ?k2 ?a3 ?l3 ?c3 ?k3 ?a4 ?l4 ?c4 ?k4 ?a5 ?l5 ?c5 ?k5 ?a6 ?l6 ?c6 ?k6 ?a7 ?l7 ?c7 ?k7 ?a8 ?l8 ?c8 ?k8 ?a9 ?l9 ?c9 ?k9 ?a10 ?l10 ?c10 ?k10 ?a11 ?l11 ?c11 ?k11 ?a12 ?l12 ?c12 ?k12 ?a13 ?l13 ?c13 ?k13 ?a14 ?l14 ?c14 ?k14 ?a15 ?l15 ?c15 ?k15 ?a16 ?l16 ?c16 ?k16 ?a17 ?l17 ?c17 ?k17 ?a18 ?l18 ?c18 ?k18 ?a19 ?l19 ?c19 ?k19 ?a20 ?l20 ?c20 ?k20 ?a21 ?l21 ?c21 ?k21 ?a22 ?l22 ?c22 ?k22 ?a23 ?l23 ?c23 ?k23 ?a24 ?l24 ?c24 ?k24 ?a25 ?l25 ?c25 ?k25 ?a26 ?l26 ?c26 ?k26 ?a27 ?l27 ?c27 ?k27 ?a28 ?l28 ?c28 ?k28 ?a29 ?l29 ?c29 ?k29 ?m_MOST_COUNT ?m_MOST_NUMBERS ?m_MOST_TERMS ?m__NEAR ?zt_KINDS ?yt_KINDS ?yt_KINDS_0 ?yt_KINDS_1 ?yt_KINDS_2 ?z_abs ?z_all ?z_any ?z_bool ?z_enumerate ?z_int ?z_isinstance ?z_len ?z_list ?z_max ?z_min ?z_range ?z_repr ?z_str ?z_sum ?z_tuple ?z_zip ?ea_Barred ?ek_Barred ?et_Barred ?es_Barred ?ev_Barred ?e1_Barred ?e2_Barred ?e3_Barred ?e4_Barred ?e5_Barred ?e8_Barred ?ea_NoMany ?ek_NoMany ?et_NoMany ?es_NoMany ?ev_NoMany ?e1_NoMany ?e2_NoMany ?e3_NoMany ?e4_NoMany ?e5_NoMany ?e8_NoMany ?x_NoMany ?ea_NoNumber ?ek_NoNumber ?et_NoNumber ?es_NoNumber ?ev_NoNumber ?e1_NoNumber ?e2_NoNumber ?e3_NoNumber ?e4_NoNumber ?e5_NoNumber ?e8_NoNumber ?x_NoNumber ?ea_NoTerm ?ek_NoTerm ?et_NoTerm ?es_NoTerm ?ev_NoTerm ?e1_NoTerm ?e2_NoTerm ?e3_NoTerm ?e4_NoTerm ?e5_NoTerm ?e8_NoTerm ?ea_RowError ?ek_RowError ?et_RowError ?es_RowError ?ev_RowError ?e1_RowError ?e2_RowError ?e3_RowError ?e4_RowError ?e5_RowError ?e8_RowError ?e6 ?e7 ?no ?gS ?lk_Barred ?rv_Barred ?sa_Barred ?iC_Barred ?tI_Barred ?nf_Barred ?up_Barred ?sC_Barred ?lI_Barred ?cI_Barred ?lC_Barred ?lD_Barred ?hv_Barred ?hf_Barred ?lk_NoTerm ?rv_NoTerm ?sa_NoTerm ?iC_NoTerm ?tI_NoTerm ?nf_NoTerm ?up_NoTerm ?sC_NoTerm ?lI_NoTerm ?cI_NoTerm ?lC_NoTerm ?lD_NoTerm ?hv_NoTerm ?hf_NoTerm ?m_Barred_NoMany ?m_Barred_NoNumber ?m_Barred_NoTerm ?m_Barred_RowError ?m_NoMany_Barred ?m_NoMany_NoNumber ?m_NoMany_NoTerm ?m_NoMany_RowError ?m_NoNumber_Barred ?m_NoNumber_NoMany ?m_NoNumber_NoTerm ?m_NoNumber_RowError ?m_NoTerm_Barred ?m_NoTerm_NoMany ?m_NoTerm_NoNumber ?m_NoTerm_RowError
    (case a0 => k_is); (case l0 => k_is); (case c0 => k_is); (case k0 => k_is); (case a1 => k_is); (case l1 => k_is); (case c1 => k_is); (case k1 => k_is); (case a2 => k_is); (case l2 => k_is); (case c2 => k_is); (case k2 => k_is); (case a3 => k_is); (case l3 => k_is); (case c3 => k_is); (case k3 => k_is); (case a4 => k_is); (case l4 => k_is); (case c4 => k_is); (case k4 => k_is); (case a5 => k_is); (case l5 => k_is); (case c5 => k_is); (case k5 => k_is); (case a6 => k_is); (case l6 => k_is); (case c6 => k_is); (case k6 => k_is); (case a7 => k_is); (case l7 => k_is); (case c7 => k_is); (case k7 => k_is); (case a8 => k_is); (case l8 => k_is); (case c8 => k_is); (case k8 => k_is); (case a9 => k_is); (case l9 => k_is); (case c9 => k_is); (case k9 => k_is); (case a10 => k_is); (case l10 => k_is); (case c10 => k_is); (case k10 => k_is); (case a11 => k_is); (case l11 => k_is); (case c11 => k_is); (case k11 => k_is); (case a12 => k_is); (case l12 => k_is); (case c12 => k_is); (case k12 => k_is); (case a13 => k_is); (case l13 => k_is); (case c13 => k_is); (case k13 => k_is); (case a14 => k_is); (case l14 => k_is); (case c14 => k_is); (case k14 => k_is); (case a15 => k_is); (case l15 => k_is); (case c15 => k_is); (case k15 => k_is); (case a16 => k_is); (case l16 => k_is); (case c16 => k_is); (case k16 => k_is); (case a17 => k_is); (case l17 => k_is); (case c17 => k_is); (case k17 => k_is); (case a18 => k_is); (case l18 => k_is); (case c18 => k_is); (case k18 => k_is); (case a19 => k_is); (case l19 => k_is); (case c19 => k_is); (case k19 => k_is); (case a20 => k_is); (case l20 => k_is); (case c20 => k_is); (case k20 => k_is); (case a21 => k_is); (case l21 => k_is); (case c21 => k_is); (case k21 => k_is); (case a22 => k_is); (case l22 => k_is); (case c22 => k_is); (case k22 => k_is); (case a23 => k_is); (case l23 => k_is); (case c23 => k_is); (case k23 => k_is); (case a24 => k_is); (case l24 => k_is); (case c24 => k_is); (case k24 => k_is); (case a25 => k_is); (case l25 => k_is); (case c25 => k_is); (case k25 => k_is); (case a26 => k_is); (case l26 => k_is); (case c26 => k_is); (case k26 => k_is); (case a27 => k_is); (case l27 => k_is); (case c27 => k_is); (case k27 => k_is); (case a28 => k_is); (case l28 => k_is); (case c28 => k_is); (case k28 => k_is); (case a29 => k_is); (case l29 => k_is); (case c29 => k_is); (case k29 => k_is); (case m_MOST_COUNT => k_is); (case m_MOST_NUMBERS => k_is); (case m_MOST_TERMS => k_is); (case m__NEAR => k_is); (case zt_KINDS => k_is); (case yt_KINDS => k_is); (case yt_KINDS_0 => k_is); (case yt_KINDS_1 => k_is); (case yt_KINDS_2 => k_is); (case z_abs => k_is); (case z_all => k_is); (case z_any => k_is); (case z_bool => k_is); (case z_enumerate => k_is); (case z_int => k_is); (case z_isinstance => k_is); (case z_len => k_is); (case z_list => k_is); (case z_max => k_is); (case z_min => k_is); (case z_range => k_is); (case z_repr => k_is); (case z_str => k_is); (case z_sum => k_is); (case z_tuple => k_is); (case z_zip => k_is); (case ea_Barred => k_is); (case ek_Barred => k_is); (case et_Barred => k_is); (case es_Barred => k_is); (case ev_Barred => k_is); (case e1_Barred => k_is); (case e2_Barred => k_is); (case e3_Barred => k_is); (case e4_Barred => k_is); (case e5_Barred => k_is); (case e8_Barred => k_is); (case ea_NoMany => k_is); (case ek_NoMany => k_is); (case et_NoMany => k_is); (case es_NoMany => k_is); (case ev_NoMany => k_is); (case e1_NoMany => k_is); (case e2_NoMany => k_is); (case e3_NoMany => k_is); (case e4_NoMany => k_is); (case e5_NoMany => k_is); (case e8_NoMany => k_is); (case x_NoMany => k_exc); (case ea_NoNumber => k_is); (case ek_NoNumber => k_is); (case et_NoNumber => k_is); (case es_NoNumber => k_is); (case ev_NoNumber => k_is); (case e1_NoNumber => k_is); (case e2_NoNumber => k_is); (case e3_NoNumber => k_is); (case e4_NoNumber => k_is); (case e5_NoNumber => k_is); (case e8_NoNumber => k_is); (case x_NoNumber => k_exc); (case ea_NoTerm => k_is); (case ek_NoTerm => k_is); (case et_NoTerm => k_is); (case es_NoTerm => k_is); (case ev_NoTerm => k_is); (case e1_NoTerm => k_is); (case e2_NoTerm => k_is); (case e3_NoTerm => k_is); (case e4_NoTerm => k_is); (case e5_NoTerm => k_is); (case e8_NoTerm => k_is); (case ea_RowError => k_is); (case ek_RowError => k_is); (case et_RowError => k_is); (case es_RowError => k_is); (case ev_RowError => k_is); (case e1_RowError => k_is); (case e2_RowError => k_is); (case e3_RowError => k_is); (case e4_RowError => k_is); (case e5_RowError => k_is); (case e8_RowError => k_is); (case e6 => k_is); (case e7 => k_is); (case no => k_is); (case gS => k_is); (case lk_Barred => k_is); (case rv_Barred => decide +kernel); (case sa_Barred => k_is); (case iC_Barred => k_is); (case tI_Barred => k_is); (case nf_Barred => k_is); (case up_Barred => ks_is); (case sC_Barred => k_is); (case lI_Barred => k_is); (case cI_Barred => k_is); (case lC_Barred => k_is); (case lD_Barred => k_is); (case hv_Barred => rfl); (case hf_Barred => decide +kernel); (case lk_NoTerm => k_is); (case rv_NoTerm => decide +kernel); (case sa_NoTerm => k_is); (case iC_NoTerm => k_is); (case tI_NoTerm => k_is); (case nf_NoTerm => k_is); (case up_NoTerm => ks_is); (case sC_NoTerm => k_is); (case lI_NoTerm => k_is); (case cI_NoTerm => k_is); (case lC_NoTerm => k_is); (case lD_NoTerm => k_is); (case hv_NoTerm => rfl); (case hf_NoTerm => decide +kernel); (case m_Barred_NoMany => k_is); (case m_Barred_NoNumber => k_is); (case m_Barred_NoTerm => k_is); (case m_Barred_RowError => k_is); (case m_NoMany_Barred => k_is); (case m_NoMany_NoNumber => k_is); (case m_NoMany_NoTerm => k_is); (case m_NoMany_RowError => k_is); (case m_NoNumber_Barred => k_is); (case m_NoNumber_NoMany => k_is); (case m_NoNumber_NoTerm => k_is); (case m_NoNumber_RowError => k_is); (case m_NoTerm_Barred => k_is); (case m_NoTerm_NoMany => k_is); (case m_NoTerm_NoNumber => k_is); (case m_NoTerm_RowError => k_is)
