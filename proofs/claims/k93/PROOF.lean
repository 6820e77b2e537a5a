import PyProof.Rows.All
import Wide.All
import OpenK.AllK
import Wide.FinOn
import HandS.Base
import HandS.Call
import HandS.List
import HandS.Comp
import HandS.Ends
import HandS.Iter
import HandS.Words
import HandS.WordsList
import HandS.Wide
import HandS.Conv
import PyProof.ReprRoads
import KE.GoesEnumKw
import HandS.IsInst
import HandS.Zip
import HandS.SortInts
import HandS.RaiseMore
import KE.DataEq
import HandS.Evl
import HandS.Style
import PyProof.Rows.SeqMore
import HandS.Gcd
import HandS.Exc
import HandS.TryOnly
import HandS.ExcOwn
import HandS.ExcInit
import HandS.ExcIs
import HandS.ExcField
import HandS.WordsExc
import KE.KExcSuper
import KE.KExcIs
import HandS.CallSlots
import HandS.Rev
import KE.DataAny
import HandS.TupMul
import HandS.Property
import OpenK.KMeth
import OpenK.KOps
import HandS.Text
import HandS.Codes
import HandS.StrMore
import HandS.WideBits
import HandS.FStr
import HandS.More
import HandS.TryMany
import HandS.Walk
import HandS.Deep
import KE.KSortKeySt
import HandS.Dict
import HandS.DictComp
import KE.KItemsList
import KE.DataMinMax
import HandS.SortKw
import HandS.TupAny
import HandS.Small
import KE.KDictZip
import PyProof.StrReplace2
import PySem.Challenge.RW_backafter_k93_whole_rings_of_products_an
set_option Elab.async false
set_option linter.all false
set_option maxRecDepth 100000
set_option maxHeartbeats 4000000
namespace Bk
open PySem PySem.Spec PyProof.Rows L2

/-! ### room, and nothing of repr on the stack -/
structure Rm (k : Nat) (A : Around) : Prop where
  rm : Room k A
  gd : A.guards = some []
theorem Rm.mono {j k : Nat} {A : Around} (r : Rm k A) (h : j ≤ k) : Rm j A := ⟨r.rm.mono h, r.gd⟩
theorem Rm.deep {k : Nat} {A : Around} (r : Rm (k + 1) A) (env : Env) : Rm k (A.deeper env) := ⟨r.rm.deeper env, r.gd⟩

/-- a def's promise where the stack holds no repr -/
structure FnG (P : Program) (w : World) (K : PySem.W.Frag) (mg : Str → Option Value) (base : Heap) (CX : CXT) (k : Nat) (f : Addr) (fd : FuncData) (ps : List Str) (sp : Sp) : Prop where
  len : ∀ vs H Q E, sp vs H Q E → vs.length = ps.length
  run : ∀ (A : Around) (out : List Env) (s : Shared) (H : Hp) (args : Args) (us : List Value) (vs : List V) (Q : VK) (E : XK), Rm k A →
    Env0 P w K mg base A out s H → BindsTo s fd args (ps.zip us) → Vals vs us → sp vs H Q E → codeAny (model P w) A (.call (.ref f) args) (CR CX out P w H s Q E) s

section
variable {P : Program} {w : World} {K : PySem.W.Frag} {mg : Str → Option Value} {base : Heap} {CX : CXT} {k : Nat} {f : Addr} {fd : FuncData} {ps : List Str} {sp : Sp}
theorem FnG.mono {j : Nat} (F : FnG P w K mg base CX j f fd ps sp) (h : j ≤ k) : FnG P w K mg base CX k f fd ps sp :=
  ⟨F.len, fun A o s H a us vs Q E r => F.run A o s H a us vs Q E (r.mono h)⟩
theorem FnG.imp {sp' : Sp} (F : FnG P w K mg base CX k f fd ps sp) (h : ∀ vs H Q E, sp' vs H Q E → sp vs H Q E) : FnG P w K mg base CX k f fd ps sp' :=
  ⟨fun vs H Q E q => F.len vs H Q E (h _ _ _ _ q), fun A o s H a us vs Q E r e b v q => F.run A o s H a us vs Q E r e b v (h _ _ _ _ q)⟩

/-- the body, for any wish about exceptions -/
theorem bodyG {x qual : Str} {st : Stmt} {N : List Str} (F : Fun K x qual st f fd) (S : FnScope N ps (defScope st)) (len : ∀ vs H Q E, sp vs H Q E → vs.length = ps.length)
    (hb : ∀ (cdv : Value) (A : Around) (out : List Env) (s : Shared) (H : Hp) (vs : List V) (Q : VK) (E : XK),
      Rm k (A.deeper (envOfC qual (defScope st) s.heap.objs.size f cdv)) → sp vs H Q E →
      ∃ t, PSs (cxOf CX P w K mg base N qual (defScope st) f cdv A out s H E) (defBody st) t ∧ t { nx := fun _ H' => Q .non H', rt := Q } (start N vs) H) :
    FnG P w K mg base CX (k + 1) f fd ps sp := by
  obtain ⟨oc, od, kV, doc, pm, an, cdv, ct, osl, rfl, lk, hcd⟩ := F.ex
  refine ⟨len, ?_⟩
  intro A out s H args us vs Q E room e0 hbd rv hsp
  have hlen := len _ _ _ _ hsp
  have inK : K.In s.heap := e0.mod.kin.keeps fun b o e => (e0.bs b o e).1
  have noL : s.heap.NoLimit := e0.mod.nolimit.keeps fun b o e => (e0.bs b o e).1
  have kinds : ∀ y ∈ ps.zip us, (defScope st).names.lookup y.1 = some .local ∨
      ((defScope st).names.lookup y.1 = some .cell ∧ ((cellsFrom (s.heap.objs.size + 1) (defScope st).names []).lookup y.1).isSome = true) := by
    intro ⟨n, v⟩ hy
    rcases S.par n (List.of_mem_zip hy).1 with q | q
    · left
      exact q
    · right
      exact ⟨q, PySem.W.cellsFrom_some _ _ _ (.inl q)⟩
  refine codeAny_call_function room.rm.depth (inK _ _ lk) rfl S.co S.gen rfl (PySem.W.codeRec_of inK hcd) (hbd _ _ _ _ ?_)
  refine wpAny_newFunctionEnv_cells S.kind kinds ?_
  intro env henv s1 x
  subst henv
  refine ⟨noL.keeps x.toInCall.keep, codeAny_func ?_⟩
  obtain ⟨t, ht, hq⟩ := hb cdv A out s H vs Q E (room.deep _) hsp
  have J0 := inv_start (CX := CX) (E := E) (f := f) (cd := cdv) S room.rm.hd e0 hlen rv x
  refine wpAny_mono (ht.run [] s1 (start N vs) H _ J0 hq) ?_ (fun _ _ hs => hs)
  intro fl s' hs
  cases fl with
  | next =>
    obtain ⟨σ', H', J, q⟩ := hs
    exact ⟨V.non, H', J.os, J.bare, J.base, J.hok, rfl, q⟩
  | ret u =>
    obtain ⟨v, σ', H', J, rr, q⟩ := hs
    exact ⟨v, H', J.os, J.bare, J.base, J.hok, rr, q⟩
  | cont =>
    obtain ⟨_, _, _, q⟩ := hs
    exact q.elim
  | brk =>
    obtain ⟨_, _, _, q⟩ := hs
    exact q.elim
/-- a def that lets no exception out -/
theorem okG {x qual : Str} {st : Stmt} {N : List Str} (F : Fun K x qual st f fd) (S : FnScope N ps (defScope st)) (len : ∀ vs H Q E, sp vs H Q E → vs.length = ps.length)
    (hb : ∀ (cdv : Value) (A : Around) (out : List Env) (s : Shared) (H : Hp) (vs : List V) (Q : VK) (E : XK),
      Rm k (A.deeper (envOfC qual (defScope st) s.heap.objs.size f cdv)) → sp vs H Q E →
      ∃ t, PSs (cxOf CX0 P w K mg base N qual (defScope st) f cdv A out s H E).nox (defBody st) t ∧ t { nx := fun _ H' => Q .non H', rt := Q } (start N vs) H) :
    FnG P w K mg base CX0 (k + 1) f fd ps sp :=
  bodyG F S len fun cdv A out s H vs Q E r q =>
    let ⟨t, h, z⟩ := hb cdv A out s H vs Q E r q
    ⟨t, h.nox, z⟩
end

/-! ### calls of such defs -/
section
variable {X : Cx} {CX : CXT} {k : Nat} {f : Addr} {fd : FuncData} {ps ks : List Str} {sp : Sp} {dvs : List V} {ds : List Value} {E : XK} {x : Str} {p pos : Pos} {e : Expr} {es : List Expr} {t tk : TA} {kws : List Keyword}
theorem endG {pins : List (Addr × Obj)} {σ : L2.St} {H : Hp} {s : Shared} {Q : VK} (I : Inv X pins σ H s) (hx : Passes CX X E) (r : Result) (s' : Shared) (h : CR CX X.stack X.prog X.w H s Q E r s') :
    (match r with | .ok (.ret u) => EP X pins σ Q u s' | .ok _ => False | .error e => X.xe e s') := by
  cases r with
  | error e => exact hx pins σ H s e s' I h
  | ok fl =>
    cases fl with
    | ret u => exact I.after h
    | _ => exact h
theorem runG {pins : List (Addr × Obj)} {σ : L2.St} {H : Hp} {s : Shared} {Q : VK} {us : List Value} {vs : List V} (F : FnG X.prog X.w X.K X.mg X.base CX k f fd ps sp) (hr : Rm k X.A) (hb : Binds X.K fd ps ds) (hd : Vals dvs ds)
    (hx : Passes CX X E) (I : Inv X pins σ H s) (r : Vals vs us) (h : sp (vs ++ dvs) H Q E) : wpAny (model X.prog X.w) X.A (call (.ref f) us) (EP X pins σ Q) X.xe s := by
  have rv := r.append hd
  have hl : (us ++ ds).length = ps.length := rv.length.symm.trans (F.len _ _ _ _ h)
  refine wpAny_call (codeAny_mono (F.run X.A X.stack s H ⟨us, []⟩ (us ++ ds) (vs ++ dvs) Q E hr I.env0 (hb s us I.kIn hl) rv h) fun r s' hq => ?_)
  have z := endG I hx r s' hq
  cases r with
  | error e => exact z
  | ok fl =>
    cases fl with
    | ret u => exact z
    | _ => exact z.elim
theorem callG (F : FnG X.prog X.w X.K X.mg X.base CX k f fd ps sp) (hr : Rm k X.A) (hg : Gl X x) (hm : X.mg x = some (.ref f)) (hk : PySem.W.keepIn X.K (.ref f) = true) (hb : Binds X.K fd ps ds) (hd : Vals dvs ds) (hx : Passes CX X E)
    (ha : PA X (e :: es) t) (hdb : (x == ("__debug__" : Str)) = false := by decide) (he : starEach (e :: es) X.env = (false, eval e X.env) :: starEach es X.env := by rfl)
    (hpl : (backTo pos (starEach es X.env)).any (·.1) = false := by rfl) : PE X (.Call (.Name x p) (e :: es) [] pos) (tCall sp dvs E t) := by
  refine ⟨fun pins s σ H Q I h => wpAny_Call_Name_kw (ld_glob I hg hm ?_ hdb)⟩
  refine PySem.W.callWith_K (h₀ := X.base) I.ok.mod.kin hk (thn (ha.run pos pins s σ H _ I h) ?_) he hpl
  intro us s1 ⟨vs, H1, I1, r, q⟩
  exact ⟨I1.kIn, runG F hr hb hd hx I1 r q⟩
theorem runGK {pins : List (Addr × Obj)} {σ : L2.St} {H : Hp} {s : Shared} {Q : VK} {us ws : List Value} {vs zs : List V} {g : List Value → List Value → List Value} {gV : List V → List V → List V}
    (F : FnG X.prog X.w X.K X.mg X.base CX k f fd ps sp) (hr : Rm k X.A) (hb : KBinds X.K fd ps ks g gV) (hx : Passes CX X E)
    (I : Inv X pins σ H s) (r : Vals vs us) (rz : Vals zs ws) (h : sp (gV vs zs) H Q E) : wpAny (model X.prog X.w) X.A (call (.ref f) us (ks.zip ws)) (EP X pins σ Q) X.xe s := by
  have rv := hb.rel r rz
  have hl : (g us ws).length = ps.length := rv.length.symm.trans (F.len _ _ _ _ h)
  refine wpAny_call (codeAny_mono (F.run X.A X.stack s H ⟨us, ks.zip ws⟩ (g us ws) (gV vs zs) Q E hr I.env0 (hb.to s us ws I.kIn hl) rv h) fun r s' hq => ?_)
  have z := endG I hx r s' hq
  cases r with
  | error e => exact z
  | ok fl =>
    cases fl with
    | ret u => exact z
    | _ => exact z.elim
end

/-! ### the end of a law -/
/-- the law's def, at the heap behind the top -/
theorem lawG {P : Program} {w : World} {K : PySem.W.Frag} {mg mb : Str → Option Value} {CX : CXT} {k : Nat} {fa a : Addr} {fd : FuncData} {x : Str} {sp : Sp} {s₁ : Shared} {vs : List Value} {ns : List Int}
    (inK : K.In s₁.heap) (hns : s₁.heap.Ns mainGlobals mg) (hb : s₁.heap.Ns builtinsNs mb) (hbb : ∀ x : Str, x ≠ "__name__" → mb x = bootBuiltins x) (hlim : s₁.heap.NoLimit) (hg : s₁.gens = #[])
    (ha : s₁.heap.get? a = some { cls := .type "list", data := .seq vs.toArray }) (hi : IntsAre vs ns) (hl : ns.length ≤ sizeLine) (hr : Rm k callerA)
    (F : ∀ base : Heap, K.In base → base.Ns mainGlobals mg → FnG P w K mg base CX k fa fd [x] sp) (hbind : ∀ (s : Shared) (u : Value), BindsTo s fd ⟨[u], []⟩ [(x, u)])
    (hsp : ∀ H : Hp, Only H → SqL K H a (ns.map V.int) → sp [.ref a] H (fun v _ => v = .bl true) fun _ _ _ => False)
    (hCX : ∀ H e s', CX [] H s₁ (fun _ _ _ => False) e s' → False) :
    codeAny (model P w) callerA (.call (.ref fa) ⟨[.ref a], []⟩) (fun r s' => r = .ok (.ret (.bool true)) ∧ OldK s₁.heap s'.heap ∧ s'.os = s₁.os ∧ AllBare s'.gens) s₁ := by
  have rv := vals_ints hi
  have go : ∀ H : Hp, Only H → SqL K H a (ns.map V.int) → HOk P w H s₁.heap → (∀ b, H b ≠ none → b = a) → (H a ≠ none → K.lookup a = none) →
      codeAny (model P w) callerA (.call (.ref fa) ⟨[.ref a], []⟩) (fun r s' => r = .ok (.ret (.bool true)) ∧ OldK s₁.heap s'.heap ∧ s'.os = s₁.os ∧ AllBare s'.gens) s₁ := by
    intro H hO hS hok only hK
    have nsd : ∀ {b : Addr} {o : Obj} {es : Array DictEntry} {ep : Nat}, s₁.heap.get? b = some o → o.data = .dict es ep → H b = none := by
      intro b o es ep e d
      cases q : H b with
      | none => rfl
      | some u =>
        obtain rfl : b = a := only b (by simp [q])
        rw [ha] at e
        cases e
        exact nomatch (show Data.seq vs.toArray _ = Data.dict es ep from d)
    have nsH : ∀ {b : Addr} {m : Str → Option Value}, s₁.heap.Ns b m → (hidT s₁.heap H).Ns b m := by
      intro b m ⟨o, es, ep, e, d, r⟩
      exact ⟨o, es, ep, hidT_get e (nsd e d), d, r⟩
    have inH : K.In (hidT s₁.heap H) := by
      intro b o e
      refine hidT_get (inK b o e) ?_
      cases q : H b with
      | none => rfl
      | some u =>
        obtain rfl : b = a := only b (by simp [q])
        rw [hK (by simp [q])] at e
        cases e
    have md : Mod K mg (hidT s₁.heap H) := ⟨inH, nsH hns, ⟨mb, nsH hb, hbb⟩, let ⟨mc, h1, h2⟩ := hlim; ⟨mc, nsH h1, h2⟩⟩
    have e0 : Env0 P w K mg (hidT s₁.heap H) callerA [] s₁ H :=
      ⟨rfl, md, fun b o e => of_hidT e, Nat.le_of_eq (hidT_size _ _), trivial, fun b hb => (List.not_mem_nil hb).elim, hok, .of_eq hg⟩
    refine codeAny_mono ((F _ inH (nsH hns)).run callerA [] s₁ H ⟨[.ref a], []⟩ [.ref a] [.ref a] _ _ hr e0 (hbind s₁ (.ref a)) (.cons rfl .nil) (hsp H hO hS)) ?_
    intro r s' h
    cases r with
    | error e => exact (hCX H e s' h).elim
    | ok fl =>
      cases fl with
      | ret u =>
        obtain ⟨v, H', os, bare, un, hok', r', q⟩ := h
        obtain rfl : v = .bl true := q
        obtain rfl : u = Value.bool true := r'
        refine ⟨rfl, OldK.of_keep ?_, os, bare⟩
        intro b o e
        cases q : H b with
        | none => exact un.keep b o e q (fun z => (List.not_mem_nil z).elim) (fun z => (List.not_mem_nil z).elim)
        | some u =>
          rcases hO b with z | ⟨ob, xs, z⟩
          · rw [q] at z
            cases z
          · obtain ⟨e1, _⟩ := hok b _ z
            obtain ⟨e2, _⟩ := hok' b _ (un.frzs b ob _ z)
            rw [e] at e1
            cases e1
            exact e2
      | _ => exact h.elim
  cases hk : K.lookup a with
  | some o =>
    have e := inK a o hk
    rw [ha] at e
    cases e
    refine go (fun _ => none) (fun _ => .inl rfl) (.inr ⟨_, vs.toArray, _, hk, rfl, rfl, rfl, ?_, by simpa using rv⟩) (fun b u z => nomatch z) (fun b z => (z rfl).elim) fun z => (z rfl).elim
    rw [List.size_toArray, hi.length]
    exact hl
  | none =>
    refine go (fun b => if b = a then some (.frz { cls := .type "list", data := .seq vs.toArray } (.lst (ns.map V.int))) else none) ?_ (.inl (.inr ⟨{ cls := .type "list", data := .seq vs.toArray }, if_pos rfl⟩)) ?_ ?_ fun _ => hk
    · intro b
      by_cases c : b = a
      · exact .inr ⟨_, _, if_pos c⟩
      · exact .inl (if_neg c)
    · intro b u z
      dsimp only at z
      by_cases c : b = a
      · rw [if_pos c] at z
        cases z
        subst c
        refine ⟨ha, ?_, vs, _, rv, ha⟩
        rw [List.length_map]
        exact hl
      · rw [if_neg c] at z
        cases z
    · intro b z
      by_cases c : b = a
      · exact c
      · exact (z (if_neg c)).elim

theorem walkG {l : PySem.W.OpenLaw} {n k : Nat} {q : Program} {loose : List Str} {XP : (Str → Option Value) → Heap → Prop} {YP : World → Heap → Prop} {d : DefRec} {K : Params → PySem.W.Frag} {CX : World → CXT} {sp : World → Sp} {x : Str}
    (hn : l.most = some n) (hn2 : n ≤ sizeLine) (hdf : d.params.defaults = []) (hr : Rm k callerA)
    (hY : ∀ (w : World) (h : Heap), YP w h → (K w.params).In h)
    (F : ∀ (w : World) (mg : Str → Option Value) (fa : Addr) (h : Heap), (K w.params).In h → h.Ns mainGlobals mg → mg d.name = some (.ref fa) →
      ∃ fd : FuncData, (∀ (s : Shared) (u : Value), BindsTo s fd ⟨[u], []⟩ [(x, u)]) ∧
        ∀ base : Heap, (K w.params).In base → base.Ns mainGlobals mg → FnG l.prog w (K w.params) mg base (CX w) k fa fd [x] (sp w))
    (hsp : ∀ (w : World) (H : Hp) (a : Addr) (ns : List Int), ns.length ≤ n → Only H → SqL (K w.params) H a (ns.map V.int) → sp w [.ref a] H (fun v _ => v = .bl true) fun _ _ _ => False)
    (hCX : ∀ (w : World) (H : Hp) (s : Shared) (e : Value) (s' : Shared), CX w [] H s (fun _ _ _ => False) e s' → False) :
    PySem.W.WalkO q loose XP YP l.row.toRowW d [] (fun f vs => PySem.call f vs) := by
  refine Att.attach_call hn hdf ?_
  intro w s₀ s₁ mg mb fa o pm cd doc a vs ns G Y ho hd hcd hmg hobj hints hlen hg
  have inK := hY w _ Y
  obtain ⟨fd, hb, hF⟩ := F w mg fa _ inK G.T.g hmg
  exact lawG inK G.T.g G.T.b G.T.builtins G.T.nolimit hg hobj hints (Nat.le_trans hlen hn2) hr hF hb (fun H hO hS => hsp w H a ns hlen hO hS) fun H e s' => hCX w H s₁ e s'

/-! ### repr of data -/
def rRepr (K : PySem.W.Frag) : List V → Hp → VK → Prop := fun xs H Q => ∃ (a : Addr) (d : PyData), xs = [.ref a] ∧ Dp K H (.ref a) d ∧ d.showable = true ∧ d.hasDict = false ∧ d.depth ≤ 60 ∧ d.shown.length ≤ sizeLine ∧ Q (.str d.shown) H
theorem call_repr {X : Cx} (hg : X.A.guards = some []) (hu : X.A.units + 64 < cLine) : CallR X (.builtin "repr") (rRepr X.K) := by
  intro pins s σ H xs us Q I r h
  obtain ⟨a, d, rfl, hd, hs, hn, hp, hz, q⟩ := h
  obtain ⟨u, rfl, ru⟩ := vals1 r
  cases (show u = Value.ref a from ru)
  obtain ⟨as, rd⟩ := Dp.reads I d (.ref a) (.ref a) hd rfl
  refine repr_of_reads' rd hs (fun z => by rw [hn] at z; cases z) hg (by omega) (fun _ _ e => e) (fun h' u tk hk => ?_) hz
  exact ⟨.str d.shown, H, I.kept hk, ⟨u, rfl⟩, q⟩
end Bk
namespace Bk
open PySem PySem.Spec PyProof.Rows L2

/-! ### enumerate(list, start=k) -/
theorem callWith_clsKw {M : Model} {A : Around} {E : Value → Shared → Prop} {s : Shared} {env : Env} {pos : Pos} {T : String} {e : Expr} {rest : List Expr} {kws : List Keyword} {Q : Value → Shared → Prop}
    (h : wpAny M A (spliced (backTo pos (starEach (e :: rest) env))) (fun vs s₁ => wpAny M A (evalAll ((backToKw pos (keywordEach kws env)).map (·.2)))
      (fun ks s₂ => wpAny M A (call (.type T) vs (((backToKw pos (keywordEach kws env)).filterMap (·.1)).zip ks)) Q E s₂) E s₁) E s)
    (hall : (backToKw pos (keywordEach kws env)).all (·.1.isSome) = true)
    (hplain : (backTo pos (starEach (e :: rest) env)).any (·.1) = false) (hkw : (backToKw pos (keywordEach kws env)).any (·.1.isNone) = false)
    (he : backTo pos (starEach (e :: rest) env) = (false, eval e env) :: backTo pos (starEach rest env)) :
    wpAny M A (callWith pos (.type T) [] (backTo pos (starEach (e :: rest) env)) (backToKw pos (keywordEach kws env))) Q E s := by
  have h2 : wpAny M A (evalArgs (.type T) true (backTo pos (starEach (e :: rest) env)) (backToKw pos (keywordEach kws env))) (fun a s₁ => wpAny M A (call (.type T) ([] ++ a.pos) a.kw) Q E s₁) E s := by
    rw [he] at h ⊢
    exact PyProof.Rows.evalArgs_kwB hall h
  unfold callWith
  refine wpAny_bind (wpAny_holding (wpAny_mono h2 (fun a s₁ h₁ => wpAny_bind (wpAny_standAt ?_)) fun _ _ x => x))
  simp only [hplain, hkw, Bool.or_false]
  refine wpAny_bind (wpAny_pure ?_)
  exact wpAny_bind (wpAny_mono h₁ (fun r s₂ hr => wpAny_bind (wpAny_holding (wpAny_point (wpAny_pure hr)))) fun _ _ x => x)

/-- the list at a, each item in a new pair, counted from c -/
def Itn (K : PySem.W.Frag) (a : Addr) (c : Int) : It :=
  ⟨fun i H => ∃ (xs : List V) (x : V), SqL K H a xs ∧ xs[i]? = some x,
   fun i H v H' => ∃ T x, v = .ref T ∧ H T = none ∧ H' = upd H T (.tup [.int (c + (i : Nat)), x]) ∧ ∀ xs, SqL K H a xs → xs[i]? = some x,
   fun i H => ∃ xs : List V, SqL K H a xs ∧ i = xs.length⟩

theorem turn_enumC {P : Program} {w : World} {K : PySem.W.Frag} {elts : List Expr} {kk : Nat} {tpos : Pos} (a e it : Addr) (c : Int) :
    Turn P w K (.Tuple elts kk tpos) (Itn K a c) [e, it] e (fun i h => (∃ old, IsEnum h e it (c + ((i : Nat) : Int)) old) ∧ h.IsListIter it a i ∧ e ≠ it) where
  mem := List.mem_cons_self
  obj := by
    intro i h st b hb
    obtain ⟨⟨old, he⟩, ⟨o, ho, hc, hd⟩, _⟩ := st
    rcases (show b = e ∨ b = it by simpa using hb) with z | z
    · rw [z]
      exact ⟨_, he, fun v q => nomatch q⟩
    · rw [z]
      exact ⟨o, ho, fun v q => by rw [hd] at q; cases q⟩
  keep := by
    intro i h h' st k
    obtain ⟨⟨old, he⟩, hi, hne⟩ := st
    exact ⟨⟨old, k e (by simp) _ he⟩, hi.at fun o q => k it (by simp) o q, hne⟩
  item := by
    intro X hP hw hK hc i pins s σ H E I hf st hg
    subst hP hw hK
    obtain ⟨⟨old, he⟩, hit, hne⟩ := st
    obtain ⟨xs, x, hq, hx⟩ := hg
    obtain ⟨its, rv, p, hz⟩ := I.list hq
    obtain ⟨u, hu, ru⟩ := rv.get hx
    have hel : e < s.heap.objs.size := Heap.lt_size he
    have hil : it < s.heap.objs.size := by
      obtain ⟨_, q, _⟩ := hit
      exact Heap.lt_size q
    have hai : a ≠ it := by
      intro z
      obtain ⟨o1, q1, c1, d1⟩ := hit
      obtain ⟨o2, n2, q2, c2, _⟩ := p
      rw [z, q1] at q2
      cases q2
      rw [c1] at c2
      exact absurd c2 (by decide)
    have hae : e ≠ a := by
      intro z
      obtain ⟨o2, n2, q2, c2, _⟩ := p
      have q3 : s.heap.get? a = _ := z ▸ he
      rw [q3] at q2
      cases q2
      exact absurd (show Value.type "enumerate" = Value.type "list" from c2) (by decide)
    have hi : i < its.toArray.size := by
      have := (List.getElem?_eq_some_iff.mp hu).1
      simpa using this
    refine wpAny_pyNext_enum_itemC (Draws.list (by show X.A.handled = none; exact I.ok.hd hc) it a hai its.toArray) he ⟨hit, p.isList⟩ hi hne (by simp [hne, hae]) ?_
    intro y h' tk hy ho st' hT hsz hk
    have ey : y = u := by
      have : its.toArray[i]? = some u := by simpa using hu
      rw [this] at hy
      exact (Option.some.inj hy).symm
    subst ey
    refine ⟨_, rfl, wpAny_letOwnedTupleGo_enum (s := { s with heap := h', toks := tk + 1 }) ho ?_⟩
    intro h'' he' sb
    have hT2 : h''.get? s.heap.objs.size = some { cls := .type "tuple", data := .seq #[.int (c + (i : Nat)) tk, y] } := (sb.2 _ (Nat.ne_of_gt hel)).trans hT
    have new : ObjOk X.prog X.w (upd H s.heap.objs.size (.tup [.int (c + (i : Nat)), x])) h'' s.heap.objs.size (.tup [.int (c + (i : Nat)), x]) :=
      ⟨by show 2 ≤ sizeLine; decide, [.int (c + (i : Nat)) tk, y], .cons ⟨_, rfl⟩ (.cons ru .nil), ⟨_, hT2, rfl, _, rfl⟩⟩
    have I1 : Inv X pins σ (upd H s.heap.objs.size (.tup [.int (c + (i : Nat)), x])) { s with heap := h'', toks := tk + 1 } := by
      refine I.turnedNew (ch := [e, it]) ?_ hf (Nat.le_refl _) new
      intro b ob hb q
      exact (sb.2 b (fun z => hb (by simp [z]))).trans (hk b ob (fun z => hb (by simp [z])) (fun z => hb (by simp [z])) q)
    refine ⟨.ref s.heap.objs.size, _, I1, rfl, ⟨_, x, rfl, I.hok.fresh (Nat.le_refl _), rfl, fun ys hy => ?_⟩, ⟨⟨y, ?_⟩, st'.1.at fun o q => (sb.2 it (Ne.symm hne)).trans q, hne⟩, fun b hb => ?_⟩
    · rw [I.list_inj hy hq]
      exact hx
    · have e1 : c + ((i + 1 : Nat) : Int) = c + (i : Int) + 1 := by omega
      rw [e1]
      exact he'
    · have hb' : b < s.heap.objs.size := by
        rcases (show b = e ∨ b = it by simpa using hb) with z | z
        · exact z ▸ hel
        · exact z ▸ hil
      rw [upd_ne (Nat.ne_of_lt hb')]
      exact (hf b hb).1
  done := by
    intro X hP hw hK hc i pins s σ H E I hf st hg
    subst hP hw hK
    obtain ⟨⟨old, he⟩, hit, hne⟩ := st
    obtain ⟨xs, hq, hx⟩ := hg
    obtain ⟨its, rv, p, hz⟩ := I.list hq
    obtain ⟨f0, f1, f2, f3, f4, f5⟩ := hf it (by simp)
    have hl := rv.length
    have hai : a ≠ it := by
      intro z
      obtain ⟨o1, q1, c1, d1⟩ := hit
      obtain ⟨o2, n2, q2, c2, _⟩ := p
      rw [z, q1] at q2
      cases q2
      rw [c1] at c2
      exact absurd c2 (by decide)
    have hn : i = its.toArray.size := by
      simp
      omega
    have st : s.heap.IsListIter it a its.toArray.size ∧ s.heap.IsList a its.toArray := ⟨hn ▸ hit, p.isList⟩
    refine wpAny_pyNext_enum_endD (Draws.list (by show X.A.handled = none; exact I.ok.hd hc) it a hai its.toArray) he st ?_
    intro h' eb
    exact ⟨rfl, I.turned (t' := s.toks) (fun b o hb q => eb b o hb q) f0 f1 f3 f4 f5⟩
  self := fun A i s Q E st h => by
    obtain ⟨⟨_, he⟩, _⟩ := st
    exact wpAny_pyIter_enum he h

def iEnumC (K : PySem.W.Frag) (ta : TA) (c : Int) : TI := fun σ H R => ta σ H fun vs H1 => ∃ a xs, vs = [.ref a] ∧ SqL K H1 a xs ∧ R (Itn K a c) H1
theorem pi_enumC {X : Cx} {e : Expr} {ta : TA} {p pos tpos kpos cpos : Pos} {elts : List Expr} {kk j : Nat} {c : Int} (hg : Gl X "enumerate") (hm : X.mg "enumerate" = none) (ha : PA X [e] ta)
    (hs : starEach [e] X.env = [(false, eval e X.env)] := by rfl) (h0 : -(2 ^ 63) ≤ c := by decide) (h1 : c < 2 ^ 63 := by decide)
    (hall : (backToKw pos (keywordEach [⟨some "start", .Constant (.int c) j cpos, kpos⟩] X.env)).all (·.1.isSome) = true := by rfl)
    (hks : (backToKw pos (keywordEach [⟨some "start", .Constant (.int c) j cpos, kpos⟩] X.env)).filterMap (·.1) = [Str.ofString "start"] := by rfl)
    (hnone : (backToKw pos (keywordEach [⟨some "start", .Constant (.int c) j cpos, kpos⟩] X.env)).any (·.1.isNone) = false := by rfl)
    (hpl : (backTo pos (starEach [e] X.env)).any (·.1) = false := by rfl) :
    PI X (.Tuple elts kk tpos) (.Call (.Name "enumerate" p) [e] [⟨some "start", .Constant (.int c) j cpos, kpos⟩] pos) (iEnumC X.K ta c) := by
  refine ⟨fun pins s σ H R I h => ?_⟩
  refine wpAny_Call_Name_kw (ld_blt I hg hm boot_enumerate ?_)
  refine callWith_clsKw (thn (ha.run pos pins s σ H _ I h) fun us s1 ⟨vs, H1, I1, r1, q1⟩ => thn ((pk_cons pe_int pk_nil).run pos pins s1 σ H1 _ I1 (show tCons (tC (.int c)) tNil σ H1 (fun zs H2 => zs = [.int c] ∧ H2 = H1) from ⟨rfl, rfl⟩)) fun ws s2 ⟨zs, H2, I2, r2, e2, e3⟩ => ?_) hall hpl hnone (by rw [hs]; rfl)
  subst e2 e3
  obtain ⟨a, xs, ex, hq, q⟩ := q1
  subst ex
  rw [hks]
  obtain ⟨u, rfl, ru⟩ := vals1 r1
  obtain ⟨v, rfl, t, rfl⟩ := vals1 r2
  cases (show u = Value.ref a from ru)
  obtain ⟨its, rv, p', hz⟩ := I2.list hq
  refine enum_begins_start (begins_list a its.toArray) p'.isList h0 h1 fun h' he hit hsz hk => wpAny_pyIter_enum he ?_
  have I3 : Inv X pins σ H2 { s2 with heap := h' } := I2.kept (t' := s2.toks) hk
  refine ⟨s2.heap.objs.size + 1, [s2.heap.objs.size + 1, s2.heap.objs.size], _, _, H2, rfl, I3, turn_enumC a (s2.heap.objs.size + 1) s2.heap.objs.size c, ⟨⟨.none, ?_⟩, ⟨_, hit, rfl, rfl⟩, Nat.succ_ne_self _⟩, fun b hb => ?_, q⟩
  · rw [show c + ((0 : Nat) : Int) = c by omega]
    exact he
  · have hle : s2.heap.objs.size ≤ b := by
      rcases (show b = s2.heap.objs.size + 1 ∨ b = s2.heap.objs.size by simpa using hb) with z | z
      · rw [z]
        exact Nat.le_succ _
      · rw [z]
        exact Nat.le_refl _
    exact I2.fpOk hle (I2.hok.fresh hle)

/-! ### powers of great numbers -/
def CPowW (i j : Int) : Prop := 0 ≤ j ∧ j ≤ 64 ∧ i.natAbs < 2 ^ 1000
theorem op_powW {X : Cx} : OpR X (binaryOp .Pow) (rI CPowW fun i j => .int (i ^ j.toNat)) := opI fun i j _ _ _ _ _ hc q => by
  obtain ⟨h0, h1, h2⟩ := hc
  refine PyProof.Rows.pow_int h0 ?_ q
  have hb : Builtin.Int.intBits i ≤ 1000 := by
    unfold Builtin.Int.intBits
    split
    · omega
    · rename_i hne
      have : i.natAbs ≠ 0 := by
        intro z
        apply hne
        simp only [beq_iff_eq]
        omega
      have := (Nat.log2_lt this).mpr h2
      omega
  have : (Builtin.Int.intBits i : Int) * j ≤ 1000 * 64 := Int.mul_le_mul (by omega) h1 h0 (by omega)
  omega
end Bk
namespace Bk
open PySem PySem.Spec PyProof.Rows L2

/-! ### heaps that grow, but for one object -/
def But (a : Addr) (H H' : Hp) : Prop := ∀ b o, b ≠ a → H b = some o → H' b = some o
theorem But.refl (a : Addr) (H : Hp) : But a H H := fun _ _ _ h => h
theorem But.trans {a : Addr} {H H1 H2 : Hp} (x : But a H H1) (y : But a H1 H2) : But a H H2 := fun b o n h => y b o n (x b o n h)
theorem But.same {a : Addr} {H H1 : Hp} (x : Same H H1) : But a H H1 := fun b o _ h => x b o h
theorem But.new {a p : Addr} {H : Hp} {o : HO} (n : H p = none) : But a H (upd H p o) := fun b u _ h => by
  rw [upd_ne (ne_of_none h n)]
  exact h
theorem But.at {a : Addr} {H : Hp} {o : HO} : But a H (upd H a o) := fun b u n h => by
  rw [upd_ne n]
  exact h
/-- an object that was not there at H may change -/
theorem But.own {a p : Addr} {H H1 : Hp} {o : HO} (x : But a H H1) (n : H p = none) : But a H (upd H1 p o) := fun b u m h => by
  rw [upd_ne (ne_of_none h n)]
  exact x b u m h
theorem Same.new {p : Addr} {H : Hp} {o : HO} (n : H p = none) : Same H (upd H p o) := fun b u h => by
  rw [upd_ne (ne_of_none h n)]
  exact h
theorem Same.own {p : Addr} {H H1 : Hp} {o : HO} (x : Same H H1) (n : H p = none) : Same H (upd H1 p o) := fun b u h => by
  rw [upd_ne (ne_of_none h n)]
  exact x b u h
theorem Same.but {a : Addr} {H H1 H2 : Hp} (x : Same H H1) (n : H a = none) (y : But a H1 H2) : Same H H2 := fun b o h => y b o (ne_of_none h n) (x b o h)
theorem But.free {a b : Addr} {H H' : Hp} (x : But a H H') (n : b ≠ a) (h : H' b = none) : H b = none := by
  cases q : H b with
  | none => rfl
  | some o =>
    rw [x b o n q] at h
    cases h
theorem But.seq {K : PySem.W.Frag} {a b : Addr} {H H' : Hp} {xs : List V} (x : But a H H') (n : b ≠ a) (h : SqL K H b xs) : SqL K H' b xs := by
  rcases h with (h | ⟨o, h⟩) | h
  · exact .inl (.inl (x _ _ n h))
  · exact .inl (.inr ⟨o, x _ _ n h⟩)
  · exact .inr h
theorem But.seqT {K : PySem.W.Frag} {a b : Addr} {H H' : Hp} {xs : List V} (x : But a H H') (n : b ≠ a) (h : SqT K H b xs) : SqT K H' b xs := by
  rcases h with (h | ⟨o, h⟩) | h
  · exact .inl (.inl (x _ _ n h))
  · exact .inl (.inr ⟨o, x _ _ n h⟩)
  · exact .inr h
theorem Same.seqT {K : PySem.W.Frag} {b : Addr} {H H' : Hp} {xs : List V} (x : Same H H') (h : SqT K H b xs) : SqT K H' b xs := by
  rcases h with (h | ⟨o, h⟩) | h
  · exact .inl (.inl (x _ _ h))
  · exact .inl (.inr ⟨o, x _ _ h⟩)
  · exact .inr h

/-! ### lists of ints -/
abbrev vi (ns : List Int) : List V := ns.map V.int
abbrev di (ns : List Int) : List PyData := ns.map PyData.int
theorem vi_get {ns : List Int} {i : Nat} {x : Int} (h : ns[i]? = some x) : (vi ns)[i]? = some (.int x) := by
  rw [List.getElem?_map, h]
  rfl
theorem vi_at {ns : List Int} {i : Nat} (h : i < ns.length) : (vi ns)[i]? = some (.int ns[i]) := vi_get (List.getElem?_eq_getElem h)
theorem dpAll_ints (K : PySem.W.Frag) (H : Hp) : ∀ ns : List Int, DpAll K H (vi ns) (di ns)
  | [] => .nil
  | n :: r => .cons (.int n) (dpAll_ints K H r)
theorem dp_lst {K : PySem.W.Frag} {H : Hp} {a : Addr} {ns : List Int} (h : SqL K H a (vi ns)) : Dp K H (.ref a) (.list (di ns)) := .lst h (dpAll_ints K H ns)
theorem dp_tup {K : PySem.W.Frag} {H : Hp} {a : Addr} {ns : List Int} (h : SqT K H a (vi ns)) : Dp K H (.ref a) (.tuple (di ns)) := .tup h (dpAll_ints K H ns)
theorem canLay_ints : ∀ ns : List Int, PyData.canLayAll0 (di ns) = true
  | [] => rfl
  | n :: r => by simp [PyData.canLayAll0, PyData.canLay0, canLay_ints r]
theorem depthAll_ints : ∀ ns : List Int, PyData.depthAll (di ns) = 0
  | [] => rfl
  | n :: r => by simp [PyData.depthAll, PyData.depth, depthAll_ints r]
theorem shaped_l (ns : List Int) : SeqAt.shaped (.list (di ns)) = true := by
  simp [SeqAt.shaped, PyData.canLay0, canLay_ints, PyData.depth, depthAll_ints]
theorem shaped_t (ns : List Int) : SeqAt.shaped (.tuple (di ns)) = true := by
  simp [SeqAt.shaped, PyData.canLay0, canLay_ints, PyData.depth, depthAll_ints]
theorem eqvAll_ints : ∀ ns ms : List Int, PyData.eqvAll (di ns) (di ms) = decide (ns = ms)
  | [], [] => rfl
  | [], m :: r => by simp [PyData.eqvAll]
  | n :: r, [] => by simp [PyData.eqvAll]
  | n :: r, m :: q => by
    have ih := eqvAll_ints r q
    simp only [List.map_cons, PyData.eqvAll, PyData.eqv, ih]
    by_cases h1 : n = m
    · by_cases h2 : r = q
      · simp [h1, h2]
      · simp [h1, h2]
    · simp [h1]
theorem eqv_l (ns ms : List Int) : PyData.eqv (.list (di ns)) (.list (di ms)) = decide (ns = ms) := by
  rw [PyData.eqv]
  exact eqvAll_ints ns ms
theorem eqv_t (ns ms : List Int) : PyData.eqv (.tuple (di ns)) (.tuple (di ms)) = decide (ns = ms) := by
  rw [PyData.eqv]
  exact eqvAll_ints ns ms

/-! ### how long a text of data is -/
def wide (k : Nat) (ns : List Int) : Prop := ∀ n ∈ ns, n.natAbs.log2 < k
theorem wide.mono {j k : Nat} {ns : List Int} (h : wide j ns) (hk : j ≤ k) : wide k ns := fun n m => Nat.lt_of_lt_of_le (h n m) hk
theorem wide_lt {k : Nat} {ns : List Int} (h0 : 0 < k) (h : ∀ n ∈ ns, n.natAbs < 2 ^ k) : wide k ns := fun n m => PySem.Flt.log2_lt_of h0 (h n m)
theorem textFrom_le : ∀ (ts : List Str) (k L : Nat) (acc : Str), (∀ t ∈ ts, t.length ≤ L) → (textFrom k acc ts).length ≤ acc.length + (L + 2) * ts.length
  | [], k, L, acc, h => Nat.le_refl _
  | t :: r, k, L, acc, h => by
    have h1 := h t List.mem_cons_self
    have ih := textFrom_le r (k + 1) L (acc ++ (if k > 0 then ", " else "" : String) ++ t) fun u m => h u (List.mem_cons_of_mem _ m)
    show (textFrom (k + 1) (acc ++ (if k > 0 then ", " else "" : String) ++ t) r).length ≤ _
    refine Nat.le_trans ih ?_
    rw [strLen_append, strLen_append, List.length_cons, Nat.mul_add]
    have e : ((if k > 0 then ", " else "" : String) : Str).length ≤ 2 := by
      split
      · exact Nat.le_refl 2
      · exact Nat.zero_le 2
    omega
theorem listText_le {ts : List Str} {L : Nat} (h : ∀ t ∈ ts, t.length ≤ L) : (listText ts).length ≤ (L + 2) * ts.length + 2 := by
  unfold listText
  rw [strLen_append]
  have := textFrom_le ts 0 L "[" h
  have e1 : (("[" : String) : Str).length = 1 := rfl
  have e2 : (("]" : String) : Str).length = 1 := rfl
  omega
theorem piled_le : ∀ {ts : List Str} {L : Nat}, (∀ t ∈ ts, t.length ≤ L) → piled ts ≤ (L + 2) * ts.length
  | [], L, _ => by simp [piled]
  | t :: r, L, h => by
    have := h t List.mem_cons_self
    have ih := piled_le (ts := r) (L := L) fun u m => h u (List.mem_cons_of_mem _ m)
    rw [piled_cons, List.length_cons, Nat.mul_add]
    omega
theorem tupleText_le {ts : List Str} {L : Nat} (h : ∀ t ∈ ts, t.length ≤ L) : (tupleText ts).length ≤ (L + 2) * ts.length + 3 := by
  unfold tupleText
  rw [strLen_append, strLen_append]
  have e1 : ((("(" : String) : Str)).length = 1 := rfl
  have e3 : (((if ts.length == 1 then ",)" else ")" : String) : Str)).length ≤ 2 := by split <;> decide
  rw [e1]
  by_cases hn : ts = []
  · subst hn
    have : (Str.join ", " ([] : List Str)).length = 0 := rfl
    omega
  · have j := join_length_add ts hn
    have p := piled_le h
    omega
theorem shownAll_ints : ∀ ns : List Int, PyData.shownAll (di ns) = ns.map fun i => (toString i : Str)
  | [] => rfl
  | n :: r => by
    show PyData.shown (.int n) :: PyData.shownAll (di r) = _
    rw [shownAll_ints r, PyData.shown]
    rfl
theorem shown_le {k : Nat} {ns : List Int} (hk : 0 < k) (h : wide k ns) : ∀ t ∈ PyData.shownAll (di ns), t.length ≤ k + 1 := by
  intro t m
  rw [shownAll_ints] at m
  obtain ⟨i, hi, rfl⟩ := List.mem_map.mp m
  rw [PySem.ofString_length]
  exact int_text_length_le hk (h i hi)
theorem showable_ints : ∀ {ns : List Int}, wide 1920 ns → PyData.showableAll (di ns) = true
  | [], _ => rfl
  | n :: r, h => by
    have h1 : n.natAbs.log2 < 1920 := h n List.mem_cons_self
    have h2 := showable_ints (ns := r) fun m hm => h m (List.mem_cons_of_mem _ hm)
    simp [PyData.showableAll, PyData.showable, h1, h2]
theorem noDict_ints : ∀ ns : List Int, PyData.hasDictAll (di ns) = false
  | [] => rfl
  | n :: r => by simp [PyData.hasDictAll, PyData.hasDict, noDict_ints r]
/-- what repr asks of a list, a tuple of ints -/
theorem repr_l {K : PySem.W.Frag} {H : Hp} {a : Addr} {ns : List Int} {Q : VK} (h : SqL K H a (vi ns)) (hw : wide 1900 ns) (hl : ns.length ≤ 4000) (q : Q (.str (PyData.list (di ns)).shown) H) : rRepr K [.ref a] H Q := by
  refine ⟨a, .list (di ns), rfl, dp_lst h, ?_, ?_, ?_, ?_, q⟩
  · simp [PyData.showable, showable_ints (hw.mono (by decide))]
  · simp [PyData.hasDict, noDict_ints]
  · simp [PyData.depth, depthAll_ints]
  · rw [PyData.shown]
    have := listText_le (shown_le (by decide) hw)
    rw [shownAll_ints, List.length_map, ← shownAll_ints] at this
    rw [sizeLine_eq]
    omega
theorem repr_t {K : PySem.W.Frag} {H : Hp} {a : Addr} {ns : List Int} {Q : VK} (h : SqT K H a (vi ns)) (hw : wide 1900 ns) (hl : ns.length ≤ 4000) (q : Q (.str (PyData.tuple (di ns)).shown) H) : rRepr K [.ref a] H Q := by
  refine ⟨a, .tuple (di ns), rfl, dp_tup h, ?_, ?_, ?_, ?_, q⟩
  · simp [PyData.showable, showable_ints (hw.mono (by decide))]
  · simp [PyData.hasDict, noDict_ints]
  · simp [PyData.depth, depthAll_ints]
  · rw [PyData.shown]
    have := tupleText_le (shown_le (by decide) hw)
    rw [shownAll_ints, List.length_map, ← shownAll_ints] at this
    rw [sizeLine_eq]
    omega
end Bk
namespace Bk
open PySem PySem.Spec PyProof.Rows L2 Evl

section
variable {X : Cx} {CX : CXT} {k : Nat} {f : Addr} {fd : FuncData} {ps ks : List Str} {sp : Sp} {E : XK} {x : Str} {p pos : Pos} {tk : TA} {kws : List Keyword}
/-- f(k = v, ..) -/
theorem callGK0 {g : List Value → List Value → List Value} {gV : List V → List V → List V} (F : FnG X.prog X.w X.K X.mg X.base CX k f fd ps sp) (hr : Rm k X.A) (hg : Gl X x) (hm : X.mg x = some (.ref f)) (hk : PySem.W.keepIn X.K (.ref f) = true)
    (hb : KBinds X.K fd ps ks g gV) (hx : Passes CX X E) (hkw : PK X kws tk) (hall : (backToKw pos (keywordEach kws X.env)).all (·.1.isSome) = true := by rfl)
    (hks : (backToKw pos (keywordEach kws X.env)).filterMap (·.1) = ks := by rfl) (hdb : (x == ("__debug__" : Str)) = false := by decide)
    (hpl : ((backTo pos (starEach [] X.env)).any (·.1) || (backToKw pos (keywordEach kws X.env)).any (·.1.isNone)) = false := by rfl) :
    PE X (.Call (.Name x p) [] kws pos) (tCallK sp gV E tNil tk) := by
  refine ⟨fun pins s σ H Q I h => wpAny_Call_Name_kw (ld_glob I hg hm ?_ hdb)⟩
  refine PySem.W.callWith_KW0 (h₀ := X.base) I.ok.mod.kin hk hall (thn (hkw.run pos pins s σ H _ I h) ?_) hpl
  intro ws s2 ⟨zs, H2, I2, rz, q2⟩
  refine ⟨I2.kIn, ?_⟩
  rw [hks]
  exact runGK F hr hb hx I2 .nil rz q2
end

/-- how keywords are put into the parameters' order -/
def gK {α : Type} (na nk : Nat) (idx : List Nat) (us ws : List α) : List α := if us.length = na ∧ ws.length = nk then idx.filterMap (fun i => (us ++ ws)[i]?) else []
theorem vals_pick {xs : List V} {us : List Value} (r : Vals xs us) : ∀ idx : List Nat, Vals (idx.filterMap (fun i => xs[i]?)) (idx.filterMap (fun i => us[i]?))
  | [] => .nil
  | i :: idx => by
    have ih := vals_pick r idx
    cases g : xs[i]? with
    | none =>
      rw [List.filterMap_cons_none (by exact g), List.filterMap_cons_none (by exact r.none_of g)]
      exact ih
    | some x =>
      obtain ⟨u, hu, rx⟩ := r.get g
      rw [List.filterMap_cons_some (by exact g), List.filterMap_cons_some (by exact hu)]
      exact .cons rx ih
theorem gK_rel {na nk : Nat} {idx : List Nat} {vs : List V} {us : List Value} {zs : List V} {ws : List Value} (r : Vals vs us) (rz : Vals zs ws) : Vals (gK na nk idx vs zs) (gK na nk idx us ws) := by
  unfold gK
  rw [r.length, rz.length]
  split
  · exact vals_pick (r.append rz) idx
  · exact .nil
theorem gK_len {α : Type} {na nk n : Nat} {idx : List Nat} {us ws : List α} (h : (gK na nk idx us ws).length = n) (hn : n ≠ 0) : us.length = na ∧ ws.length = nk := by
  unfold gK at h
  split at h
  · assumption
  · exact absurd h.symm hn

/-! ### isinstance of a built-in class -/
theorem isi_ty {K : PySem.W.Frag} {H : Hp} {x : V} {t T : String} {b : Bool} {Q : VK} (ty : TyX K H x (.type t)) (k : kitB t T = some b) (q : Q (.bl b) H) : rIsi K [x, .ty T] H Q :=
  ⟨x, .ty T, .type t, .type T, b, rfl, .ty T, ty, kit_ty k, q⟩
theorem kb_int_int : kitB "int" "int" = some true := by decide +kernel
theorem kb_int_bool : kitB "int" "bool" = some false := by decide +kernel
theorem kb_list_list : kitB "list" "list" = some true := by decide +kernel
theorem kb_tuple_tuple : kitB "tuple" "tuple" = some true := by decide +kernel
theorem bt_int : bootBuiltins "int" = some (.type "int") := by decide +kernel
theorem bt_bool : bootBuiltins "bool" = some (.type "bool") := by decide +kernel
theorem bt_list : bootBuiltins "list" = some (.type "list") := by decide +kernel
theorem bt_tuple : bootBuiltins "tuple" = some (.type "tuple") := by decide +kernel
/-- the type of a list that is read -/
theorem ty_seql {K : PySem.W.Frag} {H : Hp} {a : Addr} {xs : List V} (h : SqL K H a xs) : TyX K H (.ref a) (.type "list") := by
  rcases h with (h | ⟨o, h⟩) | ⟨o, its, n, hk, hc, _⟩
  · exact .base (.lst h)
  · exact .base (.frz h)
  · exact .kList hk hc
theorem ty_seqt {K : PySem.W.Frag} {H : Hp} {a : Addr} {xs : List V} (h : SqT K H a xs) : TyX K H (.ref a) (.type "tuple") := by
  rcases h with (h | ⟨o, h⟩) | ⟨o, its, n, hk, hc, _⟩
  · exact .base (.tup h)
  · exact .fTuple h
  · exact .kTuple hk hc

/-! ### more of what evaluates to what -/
section
variable {K : PySem.W.Frag} {σ : L2.St} {H H' : Hp} {ta tb te : TE} {t u : TT} {x y z v : V}
theorem ev_isi {T t : String} {b : Bool} (h : Ev ta σ H x) (ty : ∀ H1, Ex H H1 → TyX K H1 x (.type t)) (k : kitB t T = some b) : Ev (tCB (rIsi K) (tCons ta (tCons (tC (.ty T)) tNil))) σ H (.bl b) := fun H1 e Q q =>
  h H1 e _ fun H2 e2 => isi_ty (ty H2 (e.trans e2)) k (q H2 e2)
theorem ev_sum {p : Addr} {ns : List Int} (ha : Ev ta σ H (.ref p)) (h : SqL K H p (vi ns)) : Ev (tCB (rSum K) (tCons ta tNil)) σ H (.int ns.sum) := fun H1 e Q q =>
  ha H1 e _ fun H2 e2 => ⟨p, ns, rfl, ex_l (e.trans e2) h, q H2 e2⟩
theorem ev_sumN {ns : List Int} (ha : EvL ta σ H (vi ns)) : Ev (tCB (rSum K) (tCons ta tNil)) σ H (.int ns.sum) := fun H1 e Q q =>
  ha H1 e _ fun p H2 hp e2 h2 => ⟨p, ns, rfl, sq_of h2, q H2 e2⟩
theorem ev_int1 {i : Int} (ha : Ev ta σ H (.int i)) : Ev (tCB (fun xs H Q => (∃ i, xs = [.int i] ∧ Q (.int i) H) ∨ ∃ k, xs = [.bl k] ∧ Q (.int (if k then 1 else 0)) H) (tCons ta tNil)) σ H (.int i) := fun H1 e Q q =>
  ha H1 e _ fun H2 e2 => .inl ⟨i, rfl, q H2 e2⟩
theorem ev_abs {i : Int} (ha : Ev ta σ H (.int i)) : Ev (tCB (fun xs H Q => ∃ i, xs = [.int i] ∧ Q (.int (if i < 0 then -i else i)) H) (tCons ta tNil)) σ H (.int (if i < 0 then -i else i)) := fun H1 e Q q =>
  ha H1 e _ fun H2 e2 => ⟨i, rfl, q H2 e2⟩
theorem ev_min2 {i j : Int} (ha : Ev ta σ H (.int i)) (hb : Ev tb σ H (.int j)) : Ev (tCB (fun xs H Q => ∃ i j, xs = [.int i, .int j] ∧ Q (.int (if j < i then j else i)) H) (tCons ta (tCons tb tNil))) σ H (.int (if j < i then j else i)) := fun H1 e Q q =>
  ha H1 e _ fun H2 e2 => hb H2 (e.trans e2) _ fun H3 e3 => ⟨i, j, rfl, q H3 (e2.trans e3)⟩
/-- tuple(xs), xs a new list -/
def rTupOf (K : PySem.W.Frag) : List V → Hp → VK → Prop := fun xs H Q => ∃ p ys, xs = [.ref p] ∧ ((SqL K H p ys ∧ ∀ l, H l = none → Q (.ref l) (upd H l (.tup ys))) ∨ (SqT K H p ys ∧ Q (.ref p) H))
theorem eu_tupOf {p : Addr} {xs : List V} (ha : Ev ta σ H (.ref p)) (h : SqL K H p xs) : EvU (tCB (rTupOf K) (tCons ta tNil)) σ H xs := fun H1 e Q q =>
  ha H1 e _ fun H2 e2 => ⟨p, xs, rfl, .inl ⟨ex_l (e.trans e2) h, fun l hl => q l _ (fresh_back e2 hl) (e2.trans (Ex.new hl)) upd_same⟩⟩
theorem eu_tupOfN {xs : List V} (ha : EvL ta σ H xs) : EvU (tCB (rTupOf K) (tCons ta tNil)) σ H xs := fun H1 e Q q =>
  ha H1 e _ fun p H2 hp e2 h2 => ⟨p, xs, rfl, .inl ⟨sq_of h2, fun l hl => q l _ (fresh_back e2 hl) (e2.trans (Ex.new hl)) upd_same⟩⟩
/-- a + b of lists -/
theorem el_cat {p q : Addr} {xs ys : List V} (ha : Ev ta σ H (.ref p)) (hb : EvL tb σ H ys) (h : H p = some (.lst xs)) (hz : xs.length + ys.length ≤ 100000) : EvL (tOp rCat ta tb) σ H (xs ++ ys) := fun H1 e Q k =>
  ha H1 e _ fun H2 e2 => hb H2 (e.trans e2) _ fun r H3 hr e3 h3 => ⟨p, r, xs, ys, rfl, rfl, e3 _ _ (e2 _ _ (e _ _ h)), h3, sz_of hz, fun l hl => k l _ (fresh_back (e2.trans e3) hl) ((e2.trans e3).trans (Ex.new hl)) upd_same⟩
theorem el_catNN {xs ys : List V} (ha : EvL ta σ H xs) (hb : EvL tb σ H ys) (hz : xs.length + ys.length ≤ 100000) : EvL (tOp rCat ta tb) σ H (xs ++ ys) := fun H1 e Q k =>
  ha H1 e _ fun p H2 hp e2 h2 => hb H2 (e.trans e2) _ fun r H3 hr e3 h3 => ⟨p, r, xs, ys, rfl, rfl, e3 _ _ h2, h3, sz_of hz, fun l hl => k l _ (fresh_back (e2.trans e3) hl) ((e2.trans e3).trans (Ex.new hl)) upd_same⟩
theorem el_catPP {p q : Addr} {xs ys : List V} (ha : Ev ta σ H (.ref p)) (hb : Ev tb σ H (.ref q)) (h : H p = some (.lst xs)) (h' : H q = some (.lst ys)) (hz : xs.length + ys.length ≤ 100000) : EvL (tOp rCat ta tb) σ H (xs ++ ys) := fun H1 e Q k =>
  ha H1 e _ fun H2 e2 => hb H2 (e.trans e2) _ fun H3 e3 => ⟨p, q, xs, ys, rfl, rfl, e3 _ _ (e2 _ _ (e _ _ h)), e3 _ _ (e2 _ _ (e _ _ h')), sz_of hz, fun l hl => k l _ (fresh_back (e2.trans e3) hl) ((e2.trans e3).trans (Ex.new hl)) upd_same⟩

/-! ### pairs: enumerate, zip -/
abbrev g2 (K : PySem.W.Frag) (i j : Nat) : TG := gTup K 2 (gCons (gName i) (gCons (gName j) gNil))
theorem g2_go {i j : Nat} {T : Addr} {x y : V} {Q : L2.St → Hp → Prop} (h : H T = some (.tup [x, y])) (q : Q ((σ.set i (some x)).set j (some y)) H) : g2 K i j (.ref T) σ H Q :=
  ⟨T, [x, y], rfl, .inl (.inl h), rfl, x, [y], rfl, y, [], rfl, rfl, q⟩
variable {D : Ends} {tu tz : TS}
theorem for_Itn {a : Addr} {xs : List V} {c : Int} {i j : Nat} (Pv : Nat → L2.St → Hp → Prop) (h0 : Pv 0 σ H) (hl : ∀ n σ' H', n ≤ xs.length → Pv n σ' H' → SqL K H' a xs)
    (hs : ∀ n x σ' H', xs[n]? = some x → Pv n σ' H' → ∀ H1, Ex H' H1 → tu { D with nx := Pv (n + 1), ct := Pv (n + 1), bk := D.nx } ((σ'.set i (some (.int (c + (n : Nat))))).set j (some x)) H1) (hd : ∀ σ' H', Pv xs.length σ' H' → D.nx σ' H') :
    ∃ W : Nat → Nat → L2.St → Hp → Prop, (∃ m, W 0 m σ H) ∧ ∀ n m σ H, W n m σ H → ((Itn K a c).stop n H ∧ D.nx σ H) ∨ ((Itn K a c).go n H ∧ ∃ N : L2.St → Hp → Prop, (∀ σ' H', N σ' H' → ∃ m', m' < m ∧ W (n + 1) m' σ' H') ∧
      ∀ x H', (Itn K a c).yld n H x H' → g2 K i j x σ H' fun σ2 H2 => tu { D with nx := N, ct := N, bk := D.nx } σ2 H2) := by
  refine ⟨fun n m σ H => m = xs.length - n ∧ n ≤ xs.length ∧ Pv n σ H, ⟨xs.length, by simp, Nat.zero_le _, h0⟩, ?_⟩
  rintro n m σ H ⟨rfl, hi, p⟩
  have q := hl n σ H hi p
  by_cases hlt : n < xs.length
  · refine .inr ⟨⟨xs, xs[n], q, by simp [hlt]⟩, Pv (n + 1), fun σ' H' p' => ⟨xs.length - (n + 1), by omega, rfl, hlt, p'⟩, ?_⟩
    rintro v H' ⟨T, x, rfl, nT, rfl, hx⟩
    exact g2_go upd_same (hs n x σ H (hx xs q) p _ (Ex.new nT))
  · have e : n = xs.length := by omega
    subst e
    exact .inl ⟨⟨xs, q, rfl⟩, hd σ H p⟩
theorem for_Ite {a : Addr} {xs : List V} {i j : Nat} (Pv : Nat → L2.St → Hp → Prop) (h0 : Pv 0 σ H) (hl : ∀ n σ' H', n ≤ xs.length → Pv n σ' H' → SqL K H' a xs)
    (hs : ∀ n x σ' H', xs[n]? = some x → Pv n σ' H' → ∀ H1, Ex H' H1 → tu { D with nx := Pv (n + 1), ct := Pv (n + 1), bk := D.nx } ((σ'.set i (some (.int (n : Nat)))).set j (some x)) H1) (hd : ∀ σ' H', Pv xs.length σ' H' → D.nx σ' H') :
    ∃ W : Nat → Nat → L2.St → Hp → Prop, (∃ m, W 0 m σ H) ∧ ∀ n m σ H, W n m σ H → ((Ite K a).stop n H ∧ D.nx σ H) ∨ ((Ite K a).go n H ∧ ∃ N : L2.St → Hp → Prop, (∀ σ' H', N σ' H' → ∃ m', m' < m ∧ W (n + 1) m' σ' H') ∧
      ∀ x H', (Ite K a).yld n H x H' → g2 K i j x σ H' fun σ2 H2 => tu { D with nx := N, ct := N, bk := D.nx } σ2 H2) := by
  refine ⟨fun n m σ H => m = xs.length - n ∧ n ≤ xs.length ∧ Pv n σ H, ⟨xs.length, by simp, Nat.zero_le _, h0⟩, ?_⟩
  rintro n m σ H ⟨rfl, hi, p⟩
  have q := hl n σ H hi p
  by_cases hlt : n < xs.length
  · refine .inr ⟨⟨xs, xs[n], q, by simp [hlt]⟩, Pv (n + 1), fun σ' H' p' => ⟨xs.length - (n + 1), by omega, rfl, hlt, p'⟩, ?_⟩
    rintro v H' ⟨T, x, rfl, nT, rfl, hx⟩
    exact g2_go upd_same (hs n x σ H (hx xs q) p _ (Ex.new nT))
  · have e : n = xs.length := by omega
    subst e
    exact .inl ⟨⟨xs, q, Nat.le_refl _⟩, hd σ H p⟩
theorem s_forEn {a : Addr} {xs : List V} {tl : TE} {i j : Nat} (h : Ev tl σ H (.ref a)) (hx : SqL K H a xs) (Pv : Nat → L2.St → Hp → Prop) (h0 : ∀ H1, Ex H H1 → Pv 0 σ H1) (hl : ∀ n σ' H', n ≤ xs.length → Pv n σ' H' → SqL K H' a xs)
    (hs : ∀ n x σ' H', xs[n]? = some x → Pv n σ' H' → ∀ H1, Ex H' H1 → tu { D with nx := Pv (n + 1), ct := Pv (n + 1), bk := D.nx } ((σ'.set i (some (.int (n : Nat)))).set j (some x)) H1) (hd : ∀ σ' H', Pv xs.length σ' H' → D.nx σ' H') :
    tFor (iEnum K (tCons tl tNil)) (g2 K i j) tu D σ H :=
  h H (Ex.refl H) _ fun H1 e => ⟨a, xs, rfl, ex_l e hx, for_Ite Pv (h0 H1 e) hl hs hd⟩
theorem s_forEnC {a : Addr} {xs : List V} {tl : TE} {c : Int} {i j : Nat} (h : Ev tl σ H (.ref a)) (hx : SqL K H a xs) (Pv : Nat → L2.St → Hp → Prop) (h0 : ∀ H1, Ex H H1 → Pv 0 σ H1) (hl : ∀ n σ' H', n ≤ xs.length → Pv n σ' H' → SqL K H' a xs)
    (hs : ∀ n x σ' H', xs[n]? = some x → Pv n σ' H' → ∀ H1, Ex H' H1 → tu { D with nx := Pv (n + 1), ct := Pv (n + 1), bk := D.nx } ((σ'.set i (some (.int (c + (n : Nat))))).set j (some x)) H1) (hd : ∀ σ' H', Pv xs.length σ' H' → D.nx σ' H') :
    tFor (iEnumC K (tCons tl tNil) c) (g2 K i j) tu D σ H :=
  h H (Ex.refl H) _ fun H1 e => ⟨a, xs, rfl, ex_l e hx, for_Itn Pv (h0 H1 e) hl hs hd⟩
theorem s_forNEnC {xs : List V} {tl : TE} {c : Int} {i j : Nat} (h : EvL tl σ H xs) (Pv : Addr → Nat → L2.St → Hp → Prop) (h0 : ∀ p H1, H p = none → Ex H H1 → H1 p = some (.lst xs) → Pv p 0 σ H1) (hl : ∀ p n σ' H', n ≤ xs.length → Pv p n σ' H' → SqL K H' p xs)
    (hs : ∀ p n x σ' H', xs[n]? = some x → Pv p n σ' H' → ∀ H1, Ex H' H1 → tu { D with nx := Pv p (n + 1), ct := Pv p (n + 1), bk := D.nx } ((σ'.set i (some (.int (c + (n : Nat))))).set j (some x)) H1) (hd : ∀ p σ' H', Pv p xs.length σ' H' → D.nx σ' H') :
    tFor (iEnumC K (tCons tl tNil) c) (g2 K i j) tu D σ H :=
  h H (Ex.refl H) _ fun p H1 hp e h1 => ⟨p, xs, rfl, sq_of h1, for_Itn (Pv p) (h0 p H1 hp e h1) (hl p) (hs p) (hd p)⟩

/-- [e for i, x in enumerate(xs, start=c) if ..] of pure parts -/
theorem lc_Itn {a : Addr} {xs : List V} {c : Int} {i j : Nat} {vs : List Nat} {H1 : Hp} {Dl : Addr} {Qd : Hp → Prop} (f : Nat → Bool) (v : Nat → V) (hD : H1 Dl = none) (hx : SqL K H1 a xs) (hz : xs.length ≤ 40000)
    (hw : ∀ x y, wipe (((wipe σ vs).set i (some x)).set j (some y)) vs = wipe σ vs)
    (ht : ∀ (n : Nat) x H2, Ex H1 H2 → xs[n]? = some x → EvT t (((wipe σ vs).set i (some (.int (c + (n : Nat))))).set j (some x)) H2 (f n))
    (he : ∀ (n : Nat) x H2, Ex H1 H2 → xs[n]? = some x → f n = true → Ev te (((wipe σ vs).set i (some (.int (c + (n : Nat))))).set j (some x)) H2 (v n)) (hd : ∀ H', Cw H1 f v Dl xs.length H' → Qd H') :
    ∃ W : Nat → Nat → Hp → Prop, (∃ m, W 0 m (upd H1 Dl (.lst []))) ∧ ∀ n m H, W n m H →
      ((Itn K a c).stop n H ∧ Qd H) ∨ ((Itn K a c).go n H ∧ ∃ Nx : Hp → Prop, (∀ H', Nx H' → ∃ m', m' < m ∧ W (n + 1) m' H') ∧ ∀ x H', (Itn K a c).yld n H x H' → g2 K i j x (wipe σ vs) H' fun σ2 H2 => wipe σ2 vs = wipe σ vs ∧ t σ2 H2 fun b H3 =>
        if b = true then te σ2 H3 fun y H4 => ∃ acc, H4 Dl = some (.lst acc) ∧ acc.length < sizeLine ∧ Nx (upd H4 Dl (.lst (acc ++ [y]))) else Nx H3) := by
  refine ⟨fun n m H => m = xs.length - n ∧ n ≤ xs.length ∧ Cw H1 f v Dl n H, ⟨xs.length, by simp, Nat.zero_le _, hD, Ex.new hD, upd_same⟩, ?_⟩
  rintro n m H ⟨rfl, hi, p⟩
  have q := ex_l p.2.1 hx
  by_cases hlt : n < xs.length
  · refine .inr ⟨⟨xs, xs[n], q, by simp [hlt]⟩, Cw H1 f v Dl (n + 1), fun H' p' => ⟨xs.length - (n + 1), by omega, rfl, hlt, p'⟩, ?_⟩
    rintro w H' ⟨T, x, rfl, nT, rfl, hg⟩
    have e1 := Ex.new (o := .tup [.int (c + (n : Nat)), x]) nT
    have gx := hg xs q
    refine g2_go upd_same ⟨hw _ _, cw_turn ⟨p.1, p.2.1.trans e1, e1 _ _ p.2.2⟩ (by omega) (ht n x H1 (Ex.refl H1) gx) (he n x H1 (Ex.refl H1) gx)⟩
  · have e : n = xs.length := by omega
    subst e
    exact .inl ⟨⟨xs, q, rfl⟩, hd H p⟩
theorem el_lcEnC {a : Addr} {xs : List V} {tl : TE} {c : Int} {i j : Nat} {vs : List Nat} (f : Nat → Bool) (v : Nat → V) (h : Ev tl σ H (.ref a)) (hx : SqL K H a xs) (hz : xs.length ≤ 40000)
    (hw : ∀ x y, wipe (((wipe σ vs).set i (some x)).set j (some y)) vs = wipe σ vs)
    (ht : ∀ (n : Nat) x H1, Ex H H1 → xs[n]? = some x → EvT t (((wipe σ vs).set i (some (.int (c + (n : Nat))))).set j (some x)) H1 (f n))
    (he : ∀ (n : Nat) x H1, Ex H H1 → xs[n]? = some x → f n = true → Ev te (((wipe σ vs).set i (some (.int (c + (n : Nat))))).set j (some x)) H1 (v n)) :
    EvL (tLc (iEnumC K (tCons tl tNil) c) (g2 K i j) t te vs) σ H (given xs.length f v) := fun H0 e Q q => h H0 e _ fun H1 e1 => ⟨a, xs, rfl, ex_l (e.trans e1) hx, fun Dl hD =>
  lc_Itn f v hD (ex_l (e.trans e1) hx) hz hw (fun n x H2 e2 gx => ht n x H2 ((e.trans e1).trans e2) gx) (fun n x H2 e2 gx hf => he n x H2 ((e.trans e1).trans e2) gx hf) fun H' p => q Dl H' (fresh_back e1 p.1) (e1.trans p.2.1) p.2.2⟩
theorem el_lcNEnC {xs : List V} {tl : TE} {c : Int} {i j : Nat} {vs : List Nat} (f : Nat → Bool) (v : Nat → V) (h : EvL tl σ H xs) (hz : xs.length ≤ 40000)
    (hw : ∀ x y, wipe (((wipe σ vs).set i (some x)).set j (some y)) vs = wipe σ vs)
    (ht : ∀ (n : Nat) x H1, Ex H H1 → xs[n]? = some x → EvT t (((wipe σ vs).set i (some (.int (c + (n : Nat))))).set j (some x)) H1 (f n))
    (he : ∀ (n : Nat) x H1, Ex H H1 → xs[n]? = some x → f n = true → Ev te (((wipe σ vs).set i (some (.int (c + (n : Nat))))).set j (some x)) H1 (v n)) :
    EvL (tLc (iEnumC K (tCons tl tNil) c) (g2 K i j) t te vs) σ H (given xs.length f v) := fun H0 e Q q => h H0 e _ fun a H1 ha e1 h1 => ⟨a, xs, rfl, sq_of h1, fun Dl hD =>
  lc_Itn f v hD (sq_of h1) hz hw (fun n x H2 e2 gx => ht n x H2 ((e.trans e1).trans e2) gx) (fun n x H2 e2 gx hf => he n x H2 ((e.trans e1).trans e2) gx hf) fun H' p => q Dl H' (fresh_back e1 p.1) (e1.trans p.2.1) p.2.2⟩
/-- [e for x, y in zip(xs, ys)] of pure parts -/
theorem el_lcZ {a b : Addr} {xs ys : List V} {tl tr : TE} {i j : Nat} {vs : List Nat} (v : Nat → V) (h : Ev tl σ H (.ref a)) (h' : Ev tr σ H (.ref b)) (hx : SqL K H a xs) (hy : SqL K H b ys) (hz : xs.length ≤ 40000)
    (hw : ∀ x y, wipe (((wipe σ vs).set i (some x)).set j (some y)) vs = wipe σ vs)
    (he : ∀ (n : Nat) x y H1, Ex H H1 → xs[n]? = some x → ys[n]? = some y → Ev te (((wipe σ vs).set i (some x)).set j (some y)) H1 (v n)) :
    EvL (tLc (iZip K (tCons tl (tCons tr tNil))) (g2 K i j) tYes te vs) σ H (given (min xs.length ys.length) (fun _ => true) v) := fun H0 e Q q => h H0 e _ fun H1 e1 => h' H1 (e.trans e1) _ fun H2 e2 => by
  have ee := (e.trans e1).trans e2
  refine ⟨a, b, xs, ys, rfl, ex_l ee hx, ex_l ee hy, fun Dl hD => ?_⟩
  refine ⟨fun n m H => m = min xs.length ys.length - n ∧ n ≤ min xs.length ys.length ∧ Cw H2 (fun _ => true) v Dl n H, ⟨min xs.length ys.length, by simp, Nat.zero_le _, hD, Ex.new hD, upd_same⟩, ?_⟩
  rintro n m H ⟨rfl, hi, p⟩
  have qx := ex_l (ee.trans p.2.1) hx
  have qy := ex_l (ee.trans p.2.1) hy
  by_cases hlt : n < min xs.length ys.length
  · have h1 : n < xs.length := by omega
    have h2 : n < ys.length := by omega
    refine .inr ⟨⟨xs, ys, xs[n], ys[n], qx, qy, by simp [h1], by simp [h2]⟩, Cw H2 (fun _ => true) v Dl (n + 1), fun H' p' => ⟨min xs.length ys.length - (n + 1), by omega, rfl, hlt, p'⟩, ?_⟩
    rintro w H' ⟨T, x, y, rfl, nT, rfl, gx, gy⟩
    have e3 := Ex.new (o := .tup [x, y]) nT
    refine g2_go upd_same ⟨hw _ _, cw_turn ⟨p.1, p.2.1.trans e3, e3 _ _ p.2.2⟩ (by omega) (fun H3 _ Q q => q H3 (Ex.refl H3)) fun _ => he n x y H2 ee (gx xs qx) (gy ys qy)⟩
  · have e' : n = min xs.length ys.length := by omega
    subst e'
    exact .inl ⟨⟨xs, ys, qx, qy, by omega⟩, q Dl H (fresh_back (e1.trans e2) p.1) ((e1.trans e2).trans p.2.1) p.2.2⟩
end
end Bk
namespace Bk
open PySem PySem.Spec PyProof.Rows L2 Evl

section
variable {K : PySem.W.Frag} {σ : L2.St} {H H' : Hp} {ta tb te tc : TE} {t u : TT} {x y z v : V}
theorem ev_chain {r r' : R2} {w : V} {a b : Bool} (ha : Ev ta σ H x) (hb : Ev tb σ H y) (h1 : RV r x y H (.bl a)) (hc : a = true → Ev tc σ H w) (h2 : a = true → RV r' y w H (.bl b)) : Ev (tChain r r' ta tb tc) σ H (.bl (a && b)) := fun H1 e Q q =>
  ha H1 e _ fun H2 e2 => hb H2 (e.trans e2) _ fun H3 e3 => h1 H3 ((e.trans e2).trans e3) _ fun H4 e4 => ⟨a, rfl, by
    have ee := ((e.trans e2).trans e3).trans e4
    cases a with
    | false =>
      refine iteF ?_
      exact q H4 ((e2.trans e3).trans e4)
    | true =>
      refine iteT ?_
      exact hc rfl H4 ee _ fun H5 e5 => h2 rfl H5 (ee.trans e5) _ fun H6 e6 => q H6 ((((e2.trans e3).trans e4).trans e5).trans e6)⟩
/-- [0] * n and its like -/
theorem el_rep {xs : List V} {n : Int} (ha : EvL ta σ H xs) (hb : ∀ H1, Ex H H1 → Ev tb σ H1 (.int n)) (h0 : 0 ≤ n) (hz : xs.length * n.toNat ≤ 100000) (hn : n ≤ 100000) : EvL (tOp rRep ta tb) σ H (List.replicate n.toNat xs).flatten := fun H1 e Q q =>
  ha H1 e _ fun p H2 hp e2 h2 => hb H2 (e.trans e2) H2 (Ex.refl H2) _ fun H3 e3 => ⟨p, n, xs, rfl, rfl, e3 _ _ h2, by omega, by omega, sz_of hz, fun l hl => q l _ (fresh_back (e2.trans e3) hl) ((e2.trans e3).trans (Ex.new hl)) upd_same⟩
theorem el_ofL {p : Addr} {xs : List V} (ha : Ev ta σ H (.ref p)) (h : SqL K H p xs) : EvL (tCB (fun xs H Q => ∃ p ys, xs = [.ref p] ∧ (SqL K H p ys ∨ SqT K H p ys) ∧ ∀ l, H l = none → Q (.ref l) (upd H l (.lst ys))) (tCons ta tNil)) σ H xs := el_list ha h
/-- list(range(a, b)) -/
theorem el_rg1 {n : Int} (ha : Ev ta σ H (.int n)) (h0 : 0 ≤ n) (hn : n ≤ 100000) : EvL (tLstRg (tRg1 ta)) σ H (rgV 0 n) := fun H1 e Q q =>
  ha H1 e _ fun H2 e2 => ⟨n, rfl, RgOk.of_le (by omega) (by omega) (by omega) h0, fun l hl => q l _ (fresh_back e2 hl) (e2.trans (Ex.new hl)) upd_same⟩
theorem ev_lenT {p : Addr} {xs : List V} (ha : Ev ta σ H (.ref p)) (h : SqT K H p xs) : Ev (tCB (rLenS K) (tCons ta tNil)) σ H (.int (xs.length : Int)) := fun H1 e Q q =>
  ha H1 e _ fun H2 e2 => ⟨p, xs, rfl, Or.inr (ex_t (e.trans e2) h), q H2 e2⟩
theorem ev_lenNT {xs : List V} (ha : EvU ta σ H xs) : Ev (tCB (rLenS K) (tCons ta tNil)) σ H (.int (xs.length : Int)) := fun H1 e Q q =>
  ha H1 e _ fun p H2 _ e2 h2 => ⟨p, xs, rfl, Or.inr (st_of h2), q H2 e2⟩
/-- repr of lists and tuples of ints -/
theorem ev_reprL {p : Addr} {ns : List Int} (ha : Ev ta σ H (.ref p)) (h : SqL K H p (vi ns)) (hw : wide 1900 ns) (hz : ns.length ≤ 4000) : Ev (tCB (rRepr K) (tCons ta tNil)) σ H (.str (PyData.list (di ns)).shown) := fun H1 e Q q =>
  ha H1 e _ fun H2 e2 => repr_l (ex_l (e.trans e2) h) hw hz (q H2 e2)
theorem ev_reprNL {ns : List Int} (ha : EvL ta σ H (vi ns)) (hw : wide 1900 ns) (hz : ns.length ≤ 4000) : Ev (tCB (rRepr K) (tCons ta tNil)) σ H (.str (PyData.list (di ns)).shown) := fun H1 e Q q =>
  ha H1 e _ fun p H2 _ e2 h2 => repr_l (sq_of h2) hw hz (q H2 e2)
theorem ev_reprT {p : Addr} {ns : List Int} (ha : Ev ta σ H (.ref p)) (h : SqT K H p (vi ns)) (hw : wide 1900 ns) (hz : ns.length ≤ 4000) : Ev (tCB (rRepr K) (tCons ta tNil)) σ H (.str (PyData.tuple (di ns)).shown) := fun H1 e Q q =>
  ha H1 e _ fun H2 e2 => repr_t (ex_t (e.trans e2) h) hw hz (q H2 e2)
theorem ev_reprNT {ns : List Int} (ha : EvU ta σ H (vi ns)) (hw : wide 1900 ns) (hz : ns.length ≤ 4000) : Ev (tCB (rRepr K) (tCons ta tNil)) σ H (.str (PyData.tuple (di ns)).shown) := fun H1 e Q q =>
  ha H1 e _ fun p H2 _ e2 h2 => repr_t (st_of h2) hw hz (q H2 e2)
/-- == and != of data -/
theorem rv_eqL {p q : Addr} {ns ms : List Int} (h : SqL K H p (vi ns)) (h' : SqL K H q (vi ms)) : RV (rEqD K) (.ref p) (.ref q) H (.bl (decide (ns = ms))) := fun H1 e Q k =>
  ⟨_, _, dp_lst (ex_l e h), dp_lst (ex_l e h'), shaped_l ns, shaped_l ms, by rw [eqv_l]; exact k H1 (Ex.refl H1)⟩
theorem rv_neL {p q : Addr} {ns ms : List Int} (h : SqL K H p (vi ns)) (h' : SqL K H q (vi ms)) : RV (rNeD K) (.ref p) (.ref q) H (.bl (!decide (ns = ms))) := fun H1 e Q k =>
  ⟨_, _, dp_lst (ex_l e h), dp_lst (ex_l e h'), shaped_l ns, shaped_l ms, by rw [eqv_l]; exact k H1 (Ex.refl H1)⟩
/-- a new tuple from a call -/
def SpU (sp : Sp) (vs : List V) (H : Hp) (xs : List V) : Prop := ∀ H1, Ex H H1 → ∀ Q : VK, (∀ p H2, H1 p = none → Ex H1 H2 → H2 p = some (.tup xs) → Q (.ref p) H2) → ∀ E : XK, sp vs H1 Q E
theorem eu_call {sp : Sp} {dvs vs xs : List V} {E : XK} {ta : TA} (h : EvA ta σ H vs) (hs : SpU sp (vs ++ dvs) H xs) : EvU (tCall sp dvs E ta) σ H xs := fun H1 e Q q =>
  h H1 e _ fun H2 e2 => hs H2 (e.trans e2) Q (fun p H3 hp e3 h3 => q p H3 (fresh_back e2 hp) (e2.trans e3) h3) E
theorem eu_callK {sp : Sp} {gV : List V → List V → List V} {vs zs xs : List V} {E : XK} {ta tk : TA} (h : EvA ta σ H vs) (h' : EvA tk σ H zs) (hs : SpU sp (gV vs zs) H xs) : EvU (tCallK sp gV E ta tk) σ H xs := fun H1 e Q q =>
  h H1 e _ fun H2 e2 => h' H2 (e.trans e2) _ fun H3 e3 => hs H3 ((e.trans e2).trans e3) Q (fun p H4 hp e4 h4 => q p H4 (fresh_back (e2.trans e3) hp) ((e2.trans e3).trans e4) h4) E
theorem el_callK {sp : Sp} {gV : List V → List V → List V} {vs zs xs : List V} {E : XK} {ta tk : TA} (h : EvA ta σ H vs) (h' : EvA tk σ H zs) (hs : SpL sp (gV vs zs) H xs) : EvL (tCallK sp gV E ta tk) σ H xs := fun H1 e Q q =>
  h H1 e _ fun H2 e2 => h' H2 (e.trans e2) _ fun H3 e3 => hs H3 ((e.trans e2).trans e3) Q (fun p H4 hp e4 h4 => q p H4 (fresh_back (e2.trans e3) hp) ((e2.trans e3).trans e4) h4) E
theorem ev_callK {sp : Sp} {gV : List V → List V → List V} {vs zs : List V} {E : XK} {ta tk : TA} (h : EvA ta σ H vs) (h' : EvA tk σ H zs) (hs : SpV sp (gV vs zs) H z) : Ev (tCallK sp gV E ta tk) σ H z := fun H1 e Q q =>
  h H1 e _ fun H2 e2 => h' H2 (e.trans e2) _ fun H3 e3 => hs H3 ((e.trans e2).trans e3) Q (fun H4 e4 => q H4 ((e2.trans e3).trans e4)) E
/-- an argument that is a new list, then a call -/
theorem eu_callL {sp : Sp} {xs ys : List V} {E : XK} (h : EvL ta σ H xs) (hs : ∀ p H1, Ex H H1 → H1 p = some (.lst xs) → SpU sp [.ref p] H1 ys) : EvU (tCall sp [] E (tCons ta tNil)) σ H ys := fun H1 e Q q =>
  h H1 e _ fun p H2 hp e2 h2 => hs p H2 (e.trans e2) h2 H2 (Ex.refl H2) Q (fun r H3 hr e3 h3 => q r H3 (fresh_back e2 hr) (e2.trans e3) h3) E
theorem el_callL {sp : Sp} {xs ys : List V} {E : XK} (h : EvL ta σ H xs) (hs : ∀ p H1, Ex H H1 → H1 p = some (.lst xs) → SpL sp [.ref p] H1 ys) : EvL (tCall sp [] E (tCons ta tNil)) σ H ys := fun H1 e Q q =>
  h H1 e _ fun p H2 hp e2 h2 => hs p H2 (e.trans e2) h2 H2 (Ex.refl H2) Q (fun r H3 hr e3 h3 => q r H3 (fresh_back e2 hr) (e2.trans e3) h3) E
theorem ev_callL {sp : Sp} {xs : List V} {E : XK} (h : EvL ta σ H xs) (hs : ∀ p H1, Ex H H1 → H1 p = some (.lst xs) → SpV sp [.ref p] H1 z) : Ev (tCall sp [] E (tCons ta tNil)) σ H z := fun H1 e Q q =>
  h H1 e _ fun p H2 hp e2 h2 => hs p H2 (e.trans e2) h2 H2 (Ex.refl H2) Q (fun H3 e3 => q H3 (e2.trans e3)) E
theorem ev_callU {sp : Sp} {xs : List V} {E : XK} (h : EvU ta σ H xs) (hs : ∀ p H1, Ex H H1 → H1 p = some (.tup xs) → SpV sp [.ref p] H1 z) : Ev (tCall sp [] E (tCons ta tNil)) σ H z := fun H1 e Q q =>
  h H1 e _ fun p H2 hp e2 h2 => hs p H2 (e.trans e2) h2 H2 (Ex.refl H2) Q (fun H3 e3 => q H3 (e2.trans e3)) E
def RetU (xs : List V) (H : Hp) (Q : VK) : Prop := ∀ p H2, H p = none → Ex H H2 → H2 p = some (.tup xs) → Q (.ref p) H2
end

/-! ### a well: three ints, of which draws are made -/
def Well (H : Hp) (a : Addr) (n : Nat) : Prop := ∃ x y c : Int, H a = some (.lst [.int x, .int y, .int c]) ∧ 0 ≤ y ∧ y < 2 ^ 200 ∧ 0 ≤ c ∧ c ≤ n
theorem Well.mono {H : Hp} {a : Addr} {n m : Nat} (h : Well H a n) (l : n ≤ m) : Well H a m := by
  obtain ⟨x, y, c, h1, h2, h3, h4, h5⟩ := h
  exact ⟨x, y, c, h1, h2, h3, h4, by omega⟩
theorem Well.ex {H H' : Hp} {a : Addr} {n : Nat} (h : Well H a n) (e : Ex H H') : Well H' a n := by
  obtain ⟨x, y, c, h1, h2⟩ := h
  exact ⟨x, y, c, e _ _ h1, h2⟩
theorem Well.ne {H : Hp} {a p : Addr} {n : Nat} (h : Well H a n) (hp : H p = none) : p ≠ a := by
  obtain ⟨x, y, c, h1, h2⟩ := h
  exact (ne_of_none h1 hp).symm
/-- the promise of a draw -/
def sp_dr (K : PySem.W.Frag) : Sp := fun vs H Q _ => ∃ (a : Addr) (n : Nat) (m : Int), vs = [.ref a, .int m] ∧ Well H a n ∧ n + 1 ≤ 2 ^ 50 ∧ 0 < m ∧ m < 2 ^ 8000 ∧
  ∀ (r : Int) (H2 : Hp), But a H H2 → Well H2 a (n + 1) → 0 ≤ r → r < m → Q (.int r) H2
/-- without the well -/
def hid (a : Addr) (H : Hp) : Hp := fun b => if b = a then none else H b
theorem hid_ne {a b : Addr} {H : Hp} (h : b ≠ a) : hid a H b = H b := if_neg h
theorem ex_hid {a : Addr} {H H1 : Hp} (x : But a H H1) : Ex (hid a H) H1 := fun b o h => by
  by_cases c : b = a
  · rw [c] at h
    unfold hid at h
    rw [if_pos rfl] at h
    cases h
  · rw [hid_ne c] at h
    exact x b o c h
theorem But.ex {a : Addr} {H H1 : Hp} (x : Ex H H1) : But a H H1 := fun b o _ h => x b o h
/-- what evaluates, drawing d times, to something of which P -/
def EvW (a : Addr) (d : Nat) (te : TE) (σ : L2.St) (H : Hp) (P : V → Prop) : Prop := ∀ (n : Nat) (H1 : Hp), But a H H1 → Well H1 a n → n + d ≤ 2 ^ 50 → ∀ Q : VK, (∀ v H2, But a H1 H2 → Well H2 a (n + d) → P v → Q v H2) → te σ H1 Q
def EvWL (a : Addr) (d : Nat) (te : TE) (σ : L2.St) (H : Hp) (P : List V → Prop) : Prop := ∀ (n : Nat) (H1 : Hp), But a H H1 → Well H1 a n → n + d ≤ 2 ^ 50 → ∀ Q : VK, (∀ p xs H2, H1 p = none → But a H1 H2 → Well H2 a (n + d) → H2 p = some (.lst xs) → P xs → Q (.ref p) H2) → te σ H1 Q
section
variable {K : PySem.W.Frag} {σ : L2.St} {H : Hp} {ta tb te ti tl : TE} {a : Addr} {d d1 d2 : Nat} {P P1 P2 : V → Prop} {v : V}
theorem EvW.mono (x : EvW a d te σ H P) (h : ∀ v, P v → P1 v) : EvW a d te σ H P1 := fun n H1 b w l Q q => x n H1 b w l Q fun v H2 b2 w2 p => q v H2 b2 w2 (h v p)
theorem ew_pure (h : Ev te σ (hid a H) v) (p : P v) : EvW a 0 te σ H P := fun n H1 b w l Q q => h H1 (ex_hid b) Q fun H2 e2 => q v H2 (But.ex e2) (w.ex e2) p
theorem ew_op {r : R2} (h1 : EvW a d1 ta σ H P1) (h2 : EvW a d2 tb σ H P2) (hr : ∀ x y, P1 x → P2 y → ∃ z, (∀ H, RV r x y H z) ∧ P z) : EvW a (d1 + d2) (tOp r ta tb) σ H P := fun n H1 b w l Q q =>
  h1 n H1 b w (by omega) _ fun x H2 b2 w2 p => h2 (n + d1) H2 (b.trans b2) w2 (by omega) _ fun y H3 b3 w3 p' => by
    obtain ⟨z, hz, pz⟩ := hr x y p p'
    refine hz H3 H3 (Ex.refl H3) Q fun H4 e4 => q z H4 ((b2.trans b3).trans (But.ex e4)) ?_ pz
    have w4 := w3.ex e4
    rw [Nat.add_assoc] at w4
    exact w4
/-- draw(well, e) -/
theorem ew_draw {i : Nat} {E : XK} (hσ : σ[i]? = some (some (.ref a))) (h : EvW a d te σ H P) (hP : ∀ v, P v → ∃ m : Int, v = .int m ∧ 0 < m ∧ m < 2 ^ 8000) :
    EvW a (d + 1) (tCall (sp_dr K) [] E (tCons (tVar i) (tCons te tNil))) σ H (fun v => ∃ m r : Int, P (.int m) ∧ v = .int r ∧ 0 ≤ r ∧ r < m) := fun n H1 b w l Q q => by
  refine ⟨.ref a, hσ, ?_⟩
  refine h n H1 b w (by omega) _ fun x H2 b2 w2 p => ?_
  obtain ⟨m, rfl, h0, h1⟩ := hP x p
  refine ⟨a, n + d, m, rfl, w2, by omega, h0, h1, fun r H3 b3 w3 r0 r1 => q _ H3 (b2.trans b3) ?_ ⟨m, r, p, rfl, r0, r1⟩⟩
  exact w3
/-- draw(well, m) -/
theorem ew_drawC {i : Nat} {E : XK} {m : Int} (hσ : σ[i]? = some (some (.ref a))) (h : Ev te σ (hid a H) (.int m)) (h0 : 0 < m) (h1 : m < 2 ^ 8000) :
    EvW a 1 (tCall (sp_dr K) [] E (tCons (tVar i) (tCons te tNil))) σ H (fun v => ∃ r : Int, v = .int r ∧ 0 ≤ r ∧ r < m) :=
  (ew_draw hσ (ew_pure (P := fun v => v = .int m) h rfl) fun v e => ⟨m, e, h0, h1⟩).mono fun v ⟨m', r, e, ev, r0, r1⟩ => by
    cases e
    exact ⟨r, ev, r0, r1⟩
/-- [..][e] with the list made ahead -/
theorem ew_ix {xs : List V} (hl : EvL tl σ (hid a H) xs) (hi : EvW a d ti σ H P) (hP : ∀ v, P v → ∃ (i : Int) (x : V), v = .int i ∧ atI xs i = some x ∧ P1 x) : EvW a d (tOp (rIxL K) tl ti) σ H P1 := fun n H1 b w l Q q =>
  hl H1 (ex_hid b) _ fun p H2 hp e2 h2 => hi n H2 (b.trans (But.ex e2)) (w.ex e2) l _ fun v H3 b3 w3 pv => by
    obtain ⟨i, x, rfl, hx, px⟩ := hP v pv
    exact ⟨p, xs, i, x, rfl, rfl, sq_of (b3 p _ (w.ne hp) h2), hx, q x H3 ((But.ex e2).trans b3) w3 px⟩
/-- an own value's wish: e + e' of ints -/
theorem ew_add {P1 P2 P : Int → Prop} (h1 : EvW a d1 ta σ H (fun v => ∃ r, v = .int r ∧ P1 r)) (h2 : EvW a d2 tb σ H (fun v => ∃ r, v = .int r ∧ P2 r)) (h : ∀ x y, P1 x → P2 y → P (x + y)) :
    EvW a (d1 + d2) (tOp (rI0 fun i j => .int (i + j)) ta tb) σ H (fun v => ∃ r, v = .int r ∧ P r) :=
  ew_op h1 h2 fun x y ⟨i, ei, p⟩ ⟨j, ej, p'⟩ => ⟨.int (i + j), fun H => by
    rw [ei, ej]
    exact rv_I0, i + j, rfl, h i j p p'⟩
theorem ew_c {i : Int} {P : Int → Prop} (p : P i) : EvW a 0 (tC (.int i)) σ H (fun v => ∃ r, v = .int r ∧ P r) := ew_pure ev_c ⟨i, rfl, p⟩
theorem ew_v {j : Nat} {i : Int} {P : Int → Prop} (h : σ[j]? = some (some (.int i))) (p : P i) : EvW a 0 (tVar j) σ H (fun v => ∃ r, v = .int r ∧ P r) := ew_pure (ev_var h) ⟨i, rfl, p⟩
/-! statements -/
variable {D : Ends} {tu tw tz : TS} {n : Nat}
theorem sw_asg {i : Nat} (h : EvW a d te σ H P) (w : Well H a n) (l : n + d ≤ 2 ^ 50) (k : ∀ v H1, But a H H1 → Well H1 a (n + d) → P v → D.nx (σ.set i (some v)) H1) : tAsg te (gName i) D σ H :=
  h n H (But.refl a H) w l _ fun v H2 b2 w2 p => k v H2 b2 w2 p
theorem qw_asg {i : Nat} (h : EvW a d te σ H P) (w : Well H a n) (l : n + d ≤ 2 ^ 50) (k : ∀ v H1, But a H H1 → Well H1 a (n + d) → P v → tz D (σ.set i (some v)) H1) : tSeq (tAsg te (gName i)) tz D σ H :=
  sw_asg (D := { D with nx := tz D }) h w l k
theorem qw_if {te : TE} (h : EvW a d te σ H (fun v => ∃ b, v = .bl b)) (w : Well H a n) (l : n + d ≤ 2 ^ 50) (k1 : ∀ H1, But a H H1 → Well H1 a (n + d) → tu { D with nx := tz D } σ H1)
    (k2 : ∀ H1, But a H H1 → Well H1 a (n + d) → tw { D with nx := tz D } σ H1) : tSeq (tIfS (tTest te) tu tw) tz D σ H :=
  h n H (But.refl a H) w l _ fun v H2 b2 w2 ⟨b, e⟩ => ⟨b, e, by
    cases b with
    | true => exact iteT (k1 H2 b2 w2)
    | false => exact iteF (k2 H2 b2 w2)⟩
/-- a test draw(..) == c -/
theorem ew_eq {P1 P2 : Int → Prop} (h1 : EvW a d1 ta σ H (fun v => ∃ r, v = .int r ∧ P1 r)) (h2 : EvW a d2 tb σ H (fun v => ∃ r, v = .int r ∧ P2 r)) : EvW a (d1 + d2) (tOp rEq ta tb) σ H (fun v => ∃ b, v = .bl b) :=
  ew_op h1 h2 fun x y ⟨i, ei, p⟩ ⟨j, ej, p'⟩ => ⟨.bl (decide (x = y)), fun H => by
    rw [ei, ej]
    exact rv_eq rfl, _, rfl⟩
end
end Bk
namespace Bk
open PySem PySem.Spec PyProof.Rows L2 Evl

section
variable {K : PySem.W.Frag} {H : Hp}
theorem rv_b {g : Int → Int → Bool} {i j : Int} {b : Bool} (h : g i j = b) : RV (rI0 fun i j => .bl (g i j)) (.int i) (.int j) H (.bl b) := h ▸ rv_I0 (g := fun i j => .bl (g i j))
theorem p10_pos (n : Nat) : 0 < (10 : Int) ^ n := Int.pow_pos (by decide)
theorem cpw {i j : Int} (h : i.natAbs < 2 ^ 250) (h0 : 0 ≤ j) (h1 : j ≤ 64) : CPowW i j := ⟨h0, h1, Nat.lt_of_lt_of_le h (Nat.pow_le_pow_right (by decide) (by decide))⟩
theorem cdw {j : Int} (i : Int) (h : 0 < j) (hb : j.natAbs < 2 ^ 250) : CDivW i j := wide_div h hb (by decide) (by decide)
theorem cdw8 {j : Int} (i : Int) (h : 0 < j) (hb : j < 2 ^ 8000) : CDivW i j := by
  refine wide_div (b := 8000) h ?_ (by decide) (by decide)
  have e : ((j.natAbs : Nat) : Int) = j := Int.natAbs_of_nonneg (by omega)
  have : ((j.natAbs : Nat) : Int) < ((2 ^ 8000 : Nat) : Int) := by
    rw [e, Int.natCast_pow]
    exact hb
  exact Int.ofNat_lt.mp this
theorem lt8000 {m : Int} (h : m < 2 ^ 250) : m < 2 ^ 8000 := by
  have a : ((2 : Nat) ^ 250) ≤ 2 ^ 8000 := Nat.pow_le_pow_right (by decide) (by decide)
  have b : (((2 : Nat) ^ 250 : Nat) : Int) ≤ (((2 : Nat) ^ 8000 : Nat) : Int) := Int.ofNat_le.mpr a
  rw [Int.natCast_pow, Int.natCast_pow] at b
  exact Int.lt_of_lt_of_le h b
/-- left factor small -/
theorem cml {i j : Int} (h : -(2 ^ 64) < i ∧ i < 2 ^ 64) : CMul i j := .inl h
theorem vi_inv {ns : List Int} {i : Nat} {x : V} (h : (vi ns)[i]? = some x) : ∃ m, x = .int m ∧ ns[i]? = some m ∧ ns.getD i 0 = m := by
  rw [List.getElem?_map] at h
  cases g : ns[i]? with
  | none =>
    rw [g] at h
    cases h
  | some m =>
    rw [g] at h
    cases h
    exact ⟨m, rfl, rfl, by rw [List.getD_eq_getElem?_getD, g]; rfl⟩
theorem given_all (n : Nat) (v : Nat → V) : given n (fun _ => true) v = (List.range n).map v := by
  unfold given
  rw [List.filter_eq_self.mpr (fun _ _ => rfl)]
theorem given_ints (n : Nat) (f : Nat → Int) : given n (fun _ => true) (fun i => V.int (f i)) = vi ((List.range n).map f) := by
  rw [given_all]
  unfold vi
  rw [List.map_map]
  rfl
variable {σ : L2.St} {ta tb te : TE} {t u : TT} {D : Ends} {tu tz : TS}
theorem el_is {xs ys : List V} (h : EvL te σ H xs) (e : xs = ys) : EvL te σ H ys := e ▸ h
theorem eu_is {xs ys : List V} (h : EvU te σ H xs) (e : xs = ys) : EvU te σ H ys := e ▸ h
theorem el_lcR2 {ta : TA} {j : Nat} {vs : List Nat} {lo n : Int} (f : Nat → Bool) (v : Nat → V) (h : EvA ta σ H [.int lo, .int n]) (hn : 0 ≤ lo ∧ lo ≤ 40000 ∧ -40000 ≤ n ∧ n ≤ 40000) (hw : ∀ x, wipe ((wipe σ vs).set j (some x)) vs = wipe σ vs)
    (ht : ∀ (i : Nat) H1, Ex H H1 → lo + (i : Int) < n → EvT t ((wipe σ vs).set j (some (.int (lo + (i : Int))))) H1 (f i)) (he : ∀ (i : Nat) H1, Ex H H1 → lo + (i : Int) < n → f i = true → Ev te ((wipe σ vs).set j (some (.int (lo + (i : Int))))) H1 (v i)) :
    EvL (tLc (iRng2 ta) (gName j) t te vs) σ H (given (n - lo).toNat f v) := fun H0 e Q q => h H0 e _ fun H1 e1 => ⟨lo, n, rfl, ⟨by omega, by omega, by omega, by omega⟩, fun Dl hD =>
  lc_range (lo := lo) (n := (n - lo).toNat) (Cw H1 f v Dl) ⟨hD, Ex.new hD, upd_same⟩ (fun i H' hi p =>
    ⟨hw _, cw_turn p (by omega) (ht i H1 (e.trans e1) (by omega)) (fun hf => he i H1 (e.trans e1) (by omega) hf)⟩) (fun H' p => q Dl H' (fresh_back e1 p.1) (e1.trans p.2.1) p.2.2)⟩
theorem et_yes : EvT tYes σ H true := fun H1 _ Q q => q H1 (Ex.refl H1)
/-- xs.extend(ys), ys new -/
theorem s_ext {l : Addr} {xs ys : List V} (hl : H l = some (.lst xs)) (ha : Ev ta σ H (.ref l)) (h : EvL te σ H ys) (hz : xs.length + ys.length ≤ 100000) (k : ∀ H1, Ex H H1 → D.nx σ (upd H1 l (.lst (xs ++ ys)))) :
    tDrop (tBM K "list" rExtend ta (tCons te tNil)) D σ H := ha H (Ex.refl H) _ fun H1 e1 =>
  ⟨Or.inl ⟨rfl, xs, sq_of (e1 l _ hl)⟩, h H1 e1 _ fun p H2 hp e2 h2 => ⟨l, p, xs, ys, rfl, rfl, e2 l _ (e1 l _ hl), h2, sz_of hz, k H2 (e1.trans e2)⟩⟩
theorem q_ext {l : Addr} {xs ys : List V} (hl : H l = some (.lst xs)) (ha : Ev ta σ H (.ref l)) (h : EvL te σ H ys) (hz : xs.length + ys.length ≤ 100000) (k : ∀ H1, Ex H H1 → tz D σ (upd H1 l (.lst (xs ++ ys)))) :
    tSeq (tDrop (tBM K "list" rExtend ta (tCons te tNil))) tz D σ H := s_ext (D := { D with nx := tz D }) hl ha h hz k
theorem q_forEnC {a : Addr} {xs : List V} {tl : TE} {c : Int} {i j : Nat} (h : Ev tl σ H (.ref a)) (hx : SqL K H a xs) (Pv : Nat → L2.St → Hp → Prop) (h0 : ∀ H1, Ex H H1 → Pv 0 σ H1) (hl : ∀ n σ' H', n ≤ xs.length → Pv n σ' H' → SqL K H' a xs)
    (hs : ∀ n x σ' H', xs[n]? = some x → Pv n σ' H' → ∀ H1, Ex H' H1 → tu { D with nx := Pv (n + 1), ct := Pv (n + 1), bk := tz D } ((σ'.set i (some (.int (c + (n : Nat))))).set j (some x)) H1) (hd : ∀ σ' H', Pv xs.length σ' H' → tz D σ' H') :
    tSeq (tFor (iEnumC K (tCons tl tNil) c) (g2 K i j) tu) tz D σ H := s_forEnC (D := { D with nx := tz D }) h hx Pv h0 hl hs hd

/-! ### more with a well -/
theorem ex_but {p : Addr} {H H1 H2 : Hp} (e : Ex H H1) (n : H p = none) (b : But p H1 H2) : Ex H H2 := fun c o h => b c o (ne_of_none h n) (e c o h)
theorem but_fresh {a p : Addr} {H H1 : Hp} {n : Nat} (b : But a H H1) (w : Well H a n) (w1 : Well H1 a n) (h : H1 p = none) : H p = none := by
  cases q : H p with
  | none => rfl
  | some o =>
    rw [b p o (w1.ne h) q] at h
    cases h
theorem but_free {a p : Addr} {H H1 : Hp} {m : Nat} (b : But a H H1) (w1 : Well H1 a m) (h : H1 p = none) : H p = none := b.free (w1.ne h) h
variable {a : Addr} {d d1 d2 n : Nat} {P P1 P2 : V → Prop} {ti tw : TE} {ts : TS}
theorem ew_min2 {P1 P2 P : Int → Prop} (h1 : EvW a d1 ta σ H (fun v => ∃ r, v = .int r ∧ P1 r)) (h2 : EvW a d2 tb σ H (fun v => ∃ r, v = .int r ∧ P2 r)) (h : ∀ x y, P1 x → P2 y → P (if y < x then y else x)) :
    EvW a (d1 + d2) (tCB (fun xs H Q => ∃ i j, xs = [.int i, .int j] ∧ Q (.int (if j < i then j else i)) H) (tCons ta (tCons tb tNil))) σ H (fun v => ∃ r, v = .int r ∧ P r) := fun n H1 b w l Q q =>
  h1 n H1 b w (by omega) _ fun x H2 b2 w2 ⟨i, ei, pi⟩ => h2 (n + d1) H2 (b.trans b2) w2 (by omega) _ fun y H3 b3 w3 ⟨j, ej, pj⟩ => by
    rw [Nat.add_assoc] at w3
    subst ei ej
    exact ⟨i, j, rfl, q _ H3 (b2.trans b3) w3 ⟨_, rfl, h i j pi pj⟩⟩
theorem sw_forR1 {P : Int → Prop} {j : Nat} (h : EvW a d te σ H (fun v => ∃ r, v = .int r ∧ P r)) (hP : ∀ r, P r → 0 ≤ r ∧ r ≤ 100000) (w : Well H a n) (l : n + d ≤ 2 ^ 50) (Pv : Nat → L2.St → Hp → Prop)
    (h0 : ∀ r H1, P r → But a H H1 → Well H1 a (n + d) → Pv 0 σ H1)
    (hs : ∀ r (i : Nat) σ' H', P r → (i : Int) < r → Pv i σ' H' → tu { D with nx := Pv (i + 1), ct := Pv (i + 1), bk := D.nx } (σ'.set j (some (.int (i : Int)))) H')
    (hd : ∀ r σ' H', P r → Pv r.toNat σ' H' → D.nx σ' H') : tFor (iRng1 (tCons te tNil)) (gName j) tu D σ H :=
  h n H (But.refl a H) w l _ fun v H2 b2 w2 ⟨r, er, pr⟩ => by
    subst er
    obtain ⟨r0, r1⟩ := hP r pr
    refine ⟨r, rfl, by omega, by omega, for_range (lo := 0) (n := r.toNat) Pv (h0 r H2 pr b2 w2) (fun i σ' H' hi p => ?_) (fun σ' H' p => hd r σ' H' pr p)⟩
    have e0 : (0 : Int) + (i : Int) = (i : Int) := Int.zero_add _
    show tu { D with nx := Pv (i + 1), ct := Pv (i + 1), bk := D.nx } (σ'.set j (some (.int ((0 : Int) + (i : Int))))) H'
    rw [e0]
    exact hs r i σ' H' pr (by omega) p
theorem qw_forR1 {P : Int → Prop} {j : Nat} (h : EvW a d te σ H (fun v => ∃ r, v = .int r ∧ P r)) (hP : ∀ r, P r → 0 ≤ r ∧ r ≤ 100000) (w : Well H a n) (l : n + d ≤ 2 ^ 50) (Pv : Nat → L2.St → Hp → Prop)
    (h0 : ∀ r H1, P r → But a H H1 → Well H1 a (n + d) → Pv 0 σ H1)
    (hs : ∀ r (i : Nat) σ' H', P r → (i : Int) < r → Pv i σ' H' → tu { D with nx := Pv (i + 1), ct := Pv (i + 1), bk := tz D } (σ'.set j (some (.int (i : Int)))) H')
    (hd : ∀ r σ' H', P r → Pv r.toNat σ' H' → tz D σ' H') : tSeq (tFor (iRng1 (tCons te tNil)) (gName j) tu) tz D σ H :=
  sw_forR1 (D := { D with nx := tz D }) h hP w l Pv h0 hs hd
/-- if draw.. or pure: .. -/
theorem qw_ifOr {b : Bool} (h : EvW a d te σ H (fun v => ∃ b, v = .bl b)) (hb : ∀ H1, But a H H1 → EvT u σ H1 b) (w : Well H a n) (l : n + d ≤ 2 ^ 50)
    (k1 : ∀ H1, But a H H1 → Well H1 a (n + d) → tu { D with nx := tz D } σ H1) (k2 : b = false → ∀ H1, But a H H1 → Well H1 a (n + d) → ts { D with nx := tz D } σ H1) : tSeq (tIfS (tOr (tTest te) u) tu ts) tz D σ H :=
  h n H (But.refl a H) w l _ fun v H2 b2 w2 ⟨c, e⟩ => ⟨c, e, by
    cases c with
    | true => exact iteT (iteT (k1 H2 b2 w2))
    | false =>
      refine iteF ?_
      refine hb H2 b2 H2 (Ex.refl H2) _ fun H3 e3 => ?_
      cases b with
      | true => exact iteT (k1 H3 (b2.trans (But.ex e3)) (w2.ex e3))
      | false => exact iteF (k2 rfl H3 (b2.trans (But.ex e3)) (w2.ex e3))⟩
theorem cut_take (xs : List V) (m : Nat) : cutV xs none (some (m : Int)) = xs.take m := by
  unfold cutV
  rw [HT.sIx_none, HT.sIx_nat, List.drop_zero, Nat.sub_zero]
  by_cases h : m ≤ xs.length
  · rw [Nat.min_eq_left h]
  · rw [Nat.min_eq_right (by omega), List.take_of_length_le (Nat.le_refl _), List.take_of_length_le (by omega)]
theorem flat_rep (n : Nat) (x : Int) : (List.replicate n [V.int x]).flatten = vi (List.replicate n x) := by
  unfold vi
  rw [List.map_replicate, List.flatten_replicate_singleton]
theorem el_slN {tl th : TO} {xs : List V} {lo hi : Option Int} (h : EvL te σ H xs) (h1 : EvO tl σ H lo) (h2 : EvO th σ H hi) : EvL (tSl (rSlL K) te tl th) σ H (cutV xs lo hi) := fun H1 e _ q =>
  h H1 e _ fun a H2 ha e2 hx => h1 H2 (e.trans e2) _ fun H3 e3 => h2 H3 ((e.trans e2).trans e3) _ fun H4 e4 =>
    ⟨a, xs, rfl, sq_of (e4 _ _ (e3 _ _ hx)), fun p hp => q p _ (fresh_back ((e2.trans e3).trans e4) hp) (((e2.trans e3).trans e4).trans (Ex.new hp)) upd_same⟩
theorem sw_asgL {P : List V → Prop} {i : Nat} (h : EvWL a d te σ H P) (w : Well H a n) (l : n + d ≤ 2 ^ 50) (k : ∀ p xs H1, H p = none → But a H H1 → Well H1 a (n + d) → H1 p = some (.lst xs) → P xs → D.nx (σ.set i (some (.ref p))) H1) : tAsg te (gName i) D σ H :=
  h n H (But.refl a H) w l _ fun p xs H2 hp b2 w2 h2 p => k _ xs H2 hp b2 w2 h2 p
theorem qw_asgL {P : List V → Prop} {i : Nat} (h : EvWL a d te σ H P) (w : Well H a n) (l : n + d ≤ 2 ^ 50) (k : ∀ p xs H1, H p = none → But a H H1 → Well H1 a (n + d) → H1 p = some (.lst xs) → P xs → tz D (σ.set i (some (.ref p))) H1) : tSeq (tAsg te (gName i)) tz D σ H :=
  sw_asgL (D := { D with nx := tz D }) h w l k
/-- x, y = a, b -/
theorem q_parLU {i j : Nat} {xs ys : List V} (h1 : EvL ta σ H xs) (h2 : ∀ p H1, H p = none → Ex H H1 → H1 p = some (.lst xs) → EvU tb σ H1 ys) (k : ∀ p q H1, H p = none → H q = none → p ≠ q → Ex H H1 → H1 p = some (.lst xs) → H1 q = some (.tup ys) → tz D ((σ.set i (some (.ref p))).set j (some (.ref q))) H1) :
    tSeq (tPar i j (tCons ta (tCons tb tNil))) tz D σ H :=
  h1 H (Ex.refl H) _ fun p H2 hp e2 g2 => h2 p H2 hp e2 g2 H2 (Ex.refl H2) _ fun q H3 hq e3 g3 => ⟨_, _, rfl, k p q H3 hp (fresh_back e2 hq) (ne_of_none g2 hq) (e2.trans e3) (e3 _ _ g2) g3⟩
theorem q_parLL {i j : Nat} {xs ys : List V} (h1 : EvL ta σ H xs) (h2 : ∀ p H1, H p = none → Ex H H1 → H1 p = some (.lst xs) → EvL tb σ H1 ys) (k : ∀ p q H1, H p = none → H q = none → p ≠ q → Ex H H1 → H1 p = some (.lst xs) → H1 q = some (.lst ys) → tz D ((σ.set i (some (.ref p))).set j (some (.ref q))) H1) :
    tSeq (tPar i j (tCons ta (tCons tb tNil))) tz D σ H :=
  h1 H (Ex.refl H) _ fun p H2 hp e2 g2 => h2 p H2 hp e2 g2 H2 (Ex.refl H2) _ fun q H3 hq e3 g3 => ⟨_, _, rfl, k p q H3 hp (fresh_back e2 hq) (ne_of_none g2 hq) (e2.trans e3) (e3 _ _ g2) g3⟩
theorem q_parVV {i j : Nat} {x y : V} (h1 : Ev ta σ H x) (h2 : Ev tb σ H y) (k : ∀ H1, Ex H H1 → tz D ((σ.set i (some x)).set j (some y)) H1) :
    tSeq (tPar i j (tCons ta (tCons tb tNil))) tz D σ H :=
  h1 H (Ex.refl H) _ fun H2 e2 => h2 H2 e2 _ fun H3 e3 => ⟨_, _, rfl, k H3 (e2.trans e3)⟩
theorem q_parLV {i j : Nat} {xs : List V} {y : V} (h1 : EvL ta σ H xs) (h2 : ∀ p H1, H p = none → Ex H H1 → H1 p = some (.lst xs) → Ev tb σ H1 y) (k : ∀ p H1, H p = none → Ex H H1 → H1 p = some (.lst xs) → tz D ((σ.set i (some (.ref p))).set j (some y)) H1) :
    tSeq (tPar i j (tCons ta (tCons tb tNil))) tz D σ H :=
  h1 H (Ex.refl H) _ fun p H2 hp e2 g2 => h2 p H2 hp e2 g2 H2 (Ex.refl H2) _ fun H3 e3 => ⟨_, _, rfl, k p H3 hp (e2.trans e3) (e3 _ _ g2)⟩
theorem q_parVL {i j : Nat} {xs : List V} {y : V} (h1 : Ev ta σ H y) (h2 : EvL tb σ H xs) (k : ∀ p H1, H p = none → Ex H H1 → H1 p = some (.lst xs) → tz D ((σ.set i (some y)).set j (some (.ref p))) H1) :
    tSeq (tPar i j (tCons ta (tCons tb tNil))) tz D σ H :=
  h1 H (Ex.refl H) _ fun H2 e2 => h2 H2 e2 _ fun p H3 hp e3 g3 => ⟨_, _, rfl, k p H3 (fresh_back e2 hp) (e2.trans e3) g3⟩
end
end Bk
/-! ### sorted of a tuple of ints -/
namespace Bk
open PySem PySem.Spec PyProof.Rows L2 Evl
section
variable {prog : Program} {w : World} {A : Around} {E : Value → Shared → Prop} {s : Shared}
theorem collect_tup {l : Addr} {vs : List Value} {Q : List Value → Shared → Prop} (ht : IsTup s.heap l vs.toArray) (hz : vs.length ≤ sizeLine)
    (h : Q vs { s with heap := (s.heap.push (seqObj "list" #[] 0)).update s.heap.objs.size (Obj.mapSeq (· ++ vs.toArray)) }) : wpAny (model prog w) A (collect (.ref l)) Q E s := by
  obtain ⟨o, ho, hc, n, hd⟩ := ht
  unfold collect
  refine wpAny_bind (wpAny_runValue (codeAny_builtin entry_proto_collect' ?_))
  show wpAny _ _ (newList [] >>= fun r => again (.builtin "list.__iadd__" ⟨[r, .ref l], []⟩)) _ _ s
  refine wpAny_bind (wpAny_newList (wpAny_pure ⟨Code.quiet_builtin _ (by decide +kernel), codeAny_builtin entry_list_iadd' ?_⟩))
  show wpAny _ _ (Builtin.List.listExtendWith (.ref s.heap.objs.size) (.ref l) (.ref s.heap.objs.size)) _ _ { s with heap := s.heap.push (seqObj "list" #[] 0) }
  unfold Builtin.List.listExtendWith
  have ho1 : (s.heap.push (seqObj "list" #[] 0)).get? l = some o := Heap.get?_push_of_some _ ho
  refine wpAny_bind (wpAny_typeOf (T := "tuple") ⟨o, ho1, hc⟩ ?_)
  have e1 : (Value.type "tuple" == Value.type "tuple") = true := by rfl
  rw [if_pos (by rw [e1]; simp)]
  refine wpAny_bind (listItems_at ho1 hd ?_)
  refine wpAny_bind (listItems_at (xs := #[]) (n := 0) (Heap.get?_push_size _ rfl) rfl ?_)
  rw [if_neg (by simp)]
  refine wpAny_bind (listUpdate_at (xs := #[]) (n := 0) (Heap.get?_push_size _ rfl) rfl ?_ (Nat.zero_le _) (by
    show (#[] ++ vs.toArray).size ≤ sizeLine + 1
    simp only [Array.size_append, List.size_toArray, List.length_nil]
    omega))
  refine wpAny_pure ?_
  refine wpAny_bind (wpAny_load (get?_update_seq (Heap.get?_push_size _ rfl) _) ?_)
  have e2 : ((#[] : Array Value) ++ vs.toArray).toList = vs := by simp
  show wpAny _ _ (pure ((#[] : Array Value) ++ vs.toArray).toList) Q E _
  rw [e2]
  exact wpAny_pure h
/-- behind the collecting: the new list is sorted -/
theorem sorted_tup {l : Addr} {vs : List Value} {ns : List Int} {Q : Value → Shared → Prop} (ht : IsTup s.heap l vs.toArray) (hz : vs.length ≤ sizeLine) (hI : IntsAre vs ns)
    (h : ∀ out : List Value, IntsAre out (out.map SrtO.iv) → (out.map SrtO.iv).Perm ns → (out.map SrtO.iv).Pairwise (· ≤ ·) → Q (.ref (s.heap.objs.size + 1)) { s with heap := sortedAll s.heap vs out.toArray }) :
    wpAny (model prog w) A (call (.builtin "sorted") [.ref l]) Q E s := by
  refine Calls.call_function_entry kind_sorted plain_sorted entry_sorted (args_sorted1 _) ?_
  unfold Builtin.«sorted»
  refine wpAny_bind (m := checkCount "sorted" 1 1 _) (wpAny_pure ?_)
  refine wpAny_bind (collect_tup ht hz ?_)
  refine wpAny_bind (wpAny_newList ?_ hz)
  have es : ((s.heap.push (seqObj "list" #[] 0)).update s.heap.objs.size (Obj.mapSeq (· ++ vs.toArray))).objs.size = s.heap.objs.size + 1 := by
    rw [Heap.size_update, size_push']
  have at1 : (((s.heap.push (seqObj "list" #[] 0)).update s.heap.objs.size (Obj.mapSeq (· ++ vs.toArray))).push (seqObj "list" vs.toArray 0)).get? (s.heap.objs.size + 1) = some (seqObj "list" vs.toArray 0) := by
    rw [← es]
    exact Heap.get?_push_size _ rfl
  show wpAny _ _ _ _ _ { s with heap := ((s.heap.push (seqObj "list" #[] 0)).update s.heap.objs.size (Obj.mapSeq (· ++ vs.toArray))).push (seqObj "list" vs.toArray 0) }
  rw [es]
  refine wpAny_bind (wpAny_holding (wpAny_call_entry slot_list_sort ⟨_, at1, rfl⟩ entry_list_sort (SrtO.list_sort_ord SrtO.swo_int at1 hz (fun h2 => SrtO.ints_sortable hI h2) fun out hs hb => ⟨_, rfl, ?_⟩) (args_list_sort _)))
  obtain ⟨k1, k2, k3⟩ := SrtO.ints_out hI hs hb
  exact wpAny_pure ⟨_, rfl, h out k1 k2 k3⟩
end
def rSortedT (K : PySem.W.Frag) : List V → Hp → VK → Prop := fun vs H Q => ∃ (a : Addr) (ns : List Int), vs = [V.ref a] ∧ SqT K H a (vi ns) ∧
  ∀ (ns' : List Int) (p : Addr), ns'.Perm ns → ns'.Pairwise (· ≤ ·) → H p = none → Q (.ref p) (upd H p (.lst (vi ns')))
theorem cr_sortedTup {X : Cx} : CallR X (.builtin "sorted") (rSortedT X.K) := by
  intro pins s σ H vs us Q I r h
  obtain ⟨a, ns, rfl, hs, q⟩ := h
  obtain ⟨its, rv, ht, hz⟩ := I.tuple hs
  rw [Vals.ref1 r]
  have hi := rv.ints
  refine sorted_tup ht (by rw [← rv.length]; exact hz) hi ?_
  intro out k1 k2 k3
  obtain ⟨ep, he'⟩ := PyProof.Rows.sortedAll_at s.heap its out.toArray
  have hlen : (vi (out.map SrtO.iv)).length ≤ sizeLine := by
    rw [List.length_map] at hz
    rw [List.length_map, k2.length_eq]
    exact hz
  exact ⟨.ref _, upd H (s.heap.objs.size + 1) (.lst (vi (out.map SrtO.iv))), I.laid (t' := s.toks) (fun _ _ => PyProof.Rows.sortedAll_old) (Nat.le_succ _) ⟨hlen, out, ep, vals_of_ints k1, he'⟩, rfl, q _ _ k2 k3 (I.hok.fresh (Nat.le_succ _))⟩

/-- the one sorted list -/
theorem sorted_unique {ns ms : List Int} (hp : ns.Perm ms) (h1 : ns.Pairwise (· ≤ ·)) (h2 : ms.Pairwise (· ≤ ·)) : ns = ms := by
  induction ns generalizing ms with
  | nil => exact (List.nil_perm.mp hp).symm
  | cons a r ih =>
    cases ms with
    | nil => exact absurd hp.length_eq (by simp)
    | cons b q =>
      have ha := List.pairwise_cons.mp h1
      have hb := List.pairwise_cons.mp h2
      have e : a = b := by
        have m1 : a ∈ b :: q := hp.mem_iff.mp List.mem_cons_self
        have m2 : b ∈ a :: r := hp.mem_iff.mpr List.mem_cons_self
        have l1 : b ≤ a := by
          rcases List.mem_cons.mp m1 with z | z
          · omega
          · exact hb.1 a z
        have l2 : a ≤ b := by
          rcases List.mem_cons.mp m2 with z | z
          · omega
          · exact ha.1 b z
        omega
      subst e
      rw [ih (List.Perm.cons_inv hp) ha.2 hb.2]

section
variable {K : PySem.W.Frag} {σ : L2.St} {H H' : Hp} {ta tb te tl : TE} {t u : TT} {x y z v : V} {D : Ends} {tu tz : TS}
theorem el_sortedT {p : Addr} {ns ms : List Int} (ha : Ev ta σ H (.ref p)) (h : SqT K H p (vi ns)) (hp : ns.Perm ms) (hm : ms.Pairwise (· ≤ ·)) : EvL (tCB (rSortedT K) (tCons ta tNil)) σ H (vi ms) := fun H1 e Q q =>
  ha H1 e _ fun H2 e2 => ⟨p, ns, rfl, ex_t (e.trans e2) h, fun ns' l k1 k2 hl => by
    rw [sorted_unique (k1.trans hp) k2 hm]
    exact q l _ (fresh_back e2 hl) (e2.trans (Ex.new hl)) upd_same⟩
theorem el_sortedN {ns ms : List Int} (ha : EvL ta σ H (vi ns)) (hp : ns.Perm ms) (hm : ms.Pairwise (· ≤ ·)) : EvL (tCB (rSortedI K) (tCons ta tNil)) σ H (vi ms) := fun H1 e Q q =>
  ha H1 e _ fun p H2 hp2 e2 h2 => ⟨p, ns, rfl, sq_of h2, fun ns' l k1 k2 hl => by
    rw [sorted_unique (k1.trans hp) k2 hm]
    exact q l _ (fresh_back e2 hl) (e2.trans (Ex.new hl)) upd_same⟩
/-- all(..) of a new list of truths -/
theorem ev_allN {bs : List Bool} (ha : EvL ta σ H (bs.map V.bl)) : Ev (tCB (rAll K) (tCons ta tNil)) σ H (.bl (bs.all id)) := fun H1 e Q q =>
  ha H1 e _ fun p H2 hp2 e2 h2 => ⟨p, bs, rfl, sq_of h2, q H2 e2⟩
/-- a comprehension over a tuple -/
theorem el_lcT {a : Addr} {xs : List V} {j : Nat} {vs : List Nat} (f : Nat → Bool) (v : Nat → V) (h : Ev tl σ H (.ref a)) (hx : SqT K H a xs) (hz : xs.length ≤ 40000) (hw : ∀ x, wipe ((wipe σ vs).set j (some x)) vs = wipe σ vs)
    (ht : ∀ (i : Nat) (x : V) H1, Ex H H1 → xs[i]? = some x → EvT t ((wipe σ vs).set j (some x)) H1 (f i)) (he : ∀ (i : Nat) (x : V) H1, Ex H H1 → xs[i]? = some x → f i = true → Ev te ((wipe σ vs).set j (some x)) H1 (v i)) :
    EvL (tLc (iTup K tl) (gName j) t te vs) σ H (given xs.length f v) := fun H0 e Q q => h H0 e _ fun H1 e1 => ⟨a, rfl, ⟨xs, ex_t (e.trans e1) hx⟩, fun Dl hD =>
  lc_tup (xs := xs) (Cw H1 f v Dl) ⟨hD, Ex.new hD, upd_same⟩ (fun i H' _ p => ex_t ((e.trans e1).trans p.2.1) hx) (fun i x H' hi p => ⟨hw x, cw_turn p (by have := (List.getElem?_eq_some_iff.mp hi).1; omega) (ht i x H1 (e.trans e1) hi) (fun hf => he i x H1 (e.trans e1) hi hf)⟩)
    (fun H' p => q Dl H' (fresh_back e1 p.1) (e1.trans p.2.1) p.2.2)⟩
theorem rv_neLN {p q : Addr} {ns ms : List Int} (h : H p = some (.lst (vi ns))) (h' : H q = some (.lst (vi ms))) : RV (rNeD K) (.ref p) (.ref q) H (.bl (!decide (ns = ms))) := rv_neL (sq_of h) (sq_of h')
/-- both operands new -/
theorem ev_neLL {ns ms : List Int} (ha : EvL ta σ H (vi ns)) (hb : EvL tb σ H (vi ms)) : Ev (tOp (rNeD K) ta tb) σ H (.bl (!decide (ns = ms))) :=
  ev_opLL ha hb fun p q H1 hp hq _ => rv_neLN hp hq
theorem ev_eqLL {ns ms : List Int} (ha : EvL ta σ H (vi ns)) (hb : EvL tb σ H (vi ms)) : Ev (tOp (rEqD K) ta tb) σ H (.bl (decide (ns = ms))) :=
  ev_opLL ha hb fun p q H1 hp hq _ => rv_eqL (sq_of hp) (sq_of hq)
/-! shuffles -/
def iota (n : Nat) : List Int := (List.range n).map fun i : Nat => (i : Int)
theorem iota_length (n : Nat) : (iota n).length = n := by simp [iota]
theorem iota_sorted (n : Nat) : (iota n).Pairwise (· ≤ ·) := by
  unfold iota
  rw [List.pairwise_map]
  exact (List.pairwise_lt_range (n := n)).imp fun h => by omega
theorem rgV_iota (n : Nat) : rgV 0 (n : Int) = vi (iota n) := by
  unfold rgV iota vi
  rw [List.map_map]
  have e : ((n : Int) - 0).toNat = n := by omega
  rw [e]
  refine List.map_congr_left fun i _ => ?_
  show V.int (0 + (i : Int)) = V.int (i : Int)
  rw [Int.zero_add]
def Shf (ns : List Int) : Prop := 0 < ns.length ∧ ns.length ≤ 300 ∧ ns.Perm (iota ns.length)
theorem Shf.mem {ns : List Int} (h : Shf ns) {n : Int} (m : n ∈ ns) : 0 ≤ n ∧ n < ns.length := by
  have := h.2.2.mem_iff.mp m
  obtain ⟨i, hi, rfl⟩ := List.mem_map.mp this
  have := List.mem_range.mp hi
  omega
theorem Shf.nodup {ns : List Int} (h : Shf ns) : ns.Nodup := by
  refine h.2.2.symm.nodup ?_
  unfold iota
  show List.Pairwise _ _
  rw [List.pairwise_map]
  exact (List.nodup_range (n := ns.length)).imp fun h e => h (by omega)
theorem Shf.wide {ns : List Int} (h : Shf ns) : wide 1900 ns := (wide_lt (k := 20) (by decide) fun n m => by
  have := h.mem m
  have := h.2.1
  omega).mono (by decide)

theorem vi_erase (ns : List Int) (k : Nat) : (vi ns).eraseIdx k = vi (ns.eraseIdx k) := by
  unfold vi
  induction ns generalizing k with
  | nil => rfl
  | cons a r ih =>
    cases k with
    | zero => rfl
    | succ k =>
      show V.int a :: (r.map V.int).eraseIdx k = V.int a :: (r.eraseIdx k).map V.int
      rw [ih]
theorem vi_set (ns : List Int) (k : Nat) (x : Int) : (vi ns).set k (.int x) = vi (ns.set k x) := by
  unfold vi
  rw [List.map_set]
theorem vi_app (ns ms : List Int) : vi ns ++ vi ms = vi (ns ++ ms) := by
  unfold vi
  rw [List.map_append]
/-- a new tuple, with draws -/
def EvWU (a : Addr) (d : Nat) (te : TE) (σ : L2.St) (H : Hp) (P : List V → Prop) : Prop := ∀ (n : Nat) (H1 : Hp), But a H H1 → Well H1 a n → n + d ≤ 2 ^ 50 → ∀ Q : VK, (∀ p xs H2, H1 p = none → But a H1 H2 → Well H2 a (n + d) → H2 p = some (.tup xs) → P xs → Q (.ref p) H2) → te σ H1 Q
variable {a : Addr} {d d1 d2 n : Nat} {P P1 : List V → Prop}
theorem sw_asgU {i : Nat} (h : EvWU a d te σ H P) (w : Well H a n) (l : n + d ≤ 2 ^ 50) (k : ∀ p xs H1, H p = none → But a H H1 → Well H1 a (n + d) → H1 p = some (.tup xs) → P xs → D.nx (σ.set i (some (.ref p))) H1) : tAsg te (gName i) D σ H :=
  h n H (But.refl a H) w l _ fun p xs H2 hp b2 w2 h2 p => k _ xs H2 hp b2 w2 h2 p
theorem qw_asgU {i : Nat} (h : EvWU a d te σ H P) (w : Well H a n) (l : n + d ≤ 2 ^ 50) (k : ∀ p xs H1, H p = none → But a H H1 → Well H1 a (n + d) → H1 p = some (.tup xs) → P xs → tz D (σ.set i (some (.ref p))) H1) : tSeq (tAsg te (gName i)) tz D σ H :=
  sw_asgU (D := { D with nx := tz D }) h w l k
theorem sw_retU (h : EvWU a d te σ H P) (w : Well H a n) (l : n + d ≤ 2 ^ 50) (k : ∀ p xs H1, H p = none → But a H H1 → Well H1 a (n + d) → H1 p = some (.tup xs) → P xs → D.rt (.ref p) H1) : tRet te D σ H :=
  h n H (But.refl a H) w l _ fun p xs H2 hp b2 w2 h2 p => k _ xs H2 hp b2 w2 h2 p
/-! ### [e for x in xs for y in ys] of tuples -/
def flat2 (n m : Nat) (v : Nat → Nat → V) : List V := (List.range n).flatMap fun i => (List.range m).map (v i)
theorem flat2_succ (n m : Nat) (v : Nat → Nat → V) : flat2 (n + 1) m v = flat2 n m v ++ (List.range m).map (v n) := by
  unfold flat2
  rw [List.range_succ, List.flatMap_append, List.flatMap_singleton]
theorem flat2_length (n m : Nat) (v : Nat → Nat → V) : (flat2 n m v).length = n * m := by
  induction n with
  | zero => simp [flat2]
  | succ n ih => rw [flat2_succ, List.length_append, ih, List.length_map, List.length_range, Nat.succ_mul]
theorem yes_go {A B : Hp → Prop} (h : A H) : tYes σ H (fun b H3 => if b = true then A H3 else B H3) := by
  show (if true = true then A H else B H)
  rw [if_pos rfl]
  exact h
theorem el_lc2T {ti1 : TE} {b1 b2 : Addr} {xs ys : List V} {i j : Nat} {vs vs1 : List Nat} (v : Nat → Nat → V) (h : Ev tl σ H (.ref b1)) (hx : SqT K H b1 xs) (hy : SqT K H b2 ys)
    (h1 : ∀ x H1, Ex H H1 → Ev ti1 ((wipe σ vs).set i (some x)) H1 (.ref b2)) (hz : xs.length * ys.length ≤ 40000)
    (hw : ∀ x, wipe ((wipe σ vs).set i (some x)) vs = wipe σ vs) (hw1 : ∀ x y, wipe ((wipe ((wipe σ vs).set i (some x)) vs1).set j (some y)) vs1 = wipe ((wipe σ vs).set i (some x)) vs1)
    (he : ∀ (n m : Nat) (x y : V) H1, Ex H H1 → xs[n]? = some x → ys[m]? = some y → Ev te ((wipe ((wipe σ vs).set i (some x)) vs1).set j (some y)) H1 (v n m)) :
    EvL (tLc2 (iTup K tl) (gName i) tYes (iTup K ti1) (gName j) tYes te vs vs1) σ H (flat2 xs.length ys.length v) := fun H0 e Q q => h H0 e _ fun H1 e1 => by
  have e01 := e.trans e1
  refine ⟨b1, rfl, ⟨xs, ex_t e01 hx⟩, fun Dl hD => ?_⟩
  refine ⟨fun n m H => m = xs.length - n ∧ n ≤ xs.length ∧ Ex H1 H ∧ H Dl = some (.lst (flat2 n ys.length v)), ⟨xs.length, by simp, Nat.zero_le _, Ex.new hD, upd_same⟩, ?_⟩
  rintro n m H ⟨rfl, hn, e2, hd⟩
  have qx := ex_t (e01.trans e2) hx
  by_cases hlt : n < xs.length
  · refine .inr ⟨⟨xs, xs[n], qx, by simp [hlt]⟩, fun H' => Ex H1 H' ∧ H' Dl = some (.lst (flat2 (n + 1) ys.length v)), fun H' p' => ⟨xs.length - (n + 1), by omega, rfl, hlt, p'⟩, ?_⟩
    rintro x H' ⟨rfl, gx⟩
    have hxn := gx xs qx
    refine ⟨hw x, yes_go ?_⟩
    refine h1 x H' (e01.trans e2) H' (Ex.refl H') _ fun H4 e4 => ⟨b2, rfl, ⟨ys, ex_t ((e01.trans e2).trans e4) hy⟩, ?_⟩
    refine ⟨fun k m H => m = ys.length - k ∧ k ≤ ys.length ∧ Ex H1 H ∧ H Dl = some (.lst (flat2 n ys.length v ++ (List.range k).map (v n))), ⟨ys.length, by simp, Nat.zero_le _, e2.trans e4, by rw [e4 _ _ hd]; simp⟩, ?_⟩
    rintro k m H ⟨rfl, hk, e5, hd5⟩
    have qy := ex_t (e01.trans e5) hy
    by_cases hlk : k < ys.length
    · refine .inr ⟨⟨ys, ys[k], qy, by simp [hlk]⟩, fun H' => Ex H1 H' ∧ H' Dl = some (.lst (flat2 n ys.length v ++ (List.range (k + 1)).map (v n))), fun H' p' => ⟨ys.length - (k + 1), by omega, rfl, hlk, p'⟩, ?_⟩
      rintro y H' ⟨rfl, gy⟩
      refine ⟨hw1 x y, yes_go ?_⟩
      refine he n k x y H' (e01.trans e5) hxn (gy ys qy) H' (Ex.refl H') _ fun H6 e6 => ⟨_, e6 _ _ hd5, sz_lt ?_, Ex.mut (e5.trans e6) hD, ?_⟩
      · rw [List.length_append, flat2_length, List.length_map, List.length_range]
        have a1 : (n + 1) * ys.length ≤ xs.length * ys.length := Nat.mul_le_mul_right _ hlt
        rw [Nat.succ_mul] at a1
        omega
      · rw [upd_same, List.range_succ, List.map_append, List.append_assoc]
        rfl
    · have ek : k = ys.length := by omega
      subst ek
      refine .inl ⟨⟨ys, qy, Nat.le_refl _⟩, e5, ?_⟩
      rw [hd5, flat2_succ]
  · have en : n = xs.length := by omega
    subst en
    exact .inl ⟨⟨xs, qx, Nat.le_refl _⟩, q Dl H (fresh_back e1 hD) (e1.trans e2) hd⟩
/-- a new tuple as an argument -/
theorem eu_callU1 {sp : Sp} {xs zs : List V} {E : XK} (h : EvU ta σ H xs) (h2 : ∀ p H1, Ex H H1 → H1 p = some (.tup xs) → Ev tb σ H1 y) (hs : ∀ p H1, Ex H H1 → H1 p = some (.tup xs) → SpU sp [.ref p, y] H1 zs) : EvU (tCall sp [] E (tCons ta (tCons tb tNil))) σ H zs := fun H1 e Q q =>
  h H1 e _ fun p H2 hp e2 g2 => h2 p H2 (e.trans e2) g2 H2 (Ex.refl H2) _ fun H3 e3 => hs p H3 ((e.trans e2).trans e3) (e3 _ _ g2) H3 (Ex.refl H3) Q (fun r H4 hr e4 h4 => q r H4 (fresh_back (e2.trans e3) hr) ((e2.trans e3).trans e4) h4) E
theorem eu_callU2 {sp : Sp} {xs zs : List V} {E : XK} (h : Ev ta σ H x) (h2 : EvU tb σ H xs) (hs : ∀ p H1, Ex H H1 → H1 p = some (.tup xs) → SpU sp [x, .ref p] H1 zs) : EvU (tCall sp [] E (tCons ta (tCons tb tNil))) σ H zs := fun H1 e Q q =>
  h H1 e _ fun H2 e2 => h2 H2 (e.trans e2) _ fun p H3 hp e3 g3 => hs p H3 ((e.trans e2).trans e3) g3 H3 (Ex.refl H3) Q (fun r H4 hr e4 h4 => q r H4 (fresh_back (e2.trans e3) hr) ((e2.trans e3).trans e4) h4) E
end
end Bk
namespace Bk
open PySem PySem.Spec PyProof.Rows L2 Evl
/-! ### where built-in names stand; rules with the written part named -/
theorem bt_len : bootBuiltins "len" = some (.builtin "len") := by decide +kernel
theorem bt_abs : bootBuiltins "abs" = some (.builtin "abs") := by decide +kernel
theorem bt_max : bootBuiltins "max" = some (.builtin "max") := by decide +kernel
theorem bt_min : bootBuiltins "min" = some (.builtin "min") := by decide +kernel
theorem bt_sum : bootBuiltins "sum" = some (.builtin "sum") := by decide +kernel
theorem bt_sorted : bootBuiltins "sorted" = some (.builtin "sorted") := by decide +kernel
theorem bt_all : bootBuiltins "all" = some (.builtin "all") := by decide +kernel
theorem bt_any : bootBuiltins "any" = some (.builtin "any") := by decide +kernel
theorem bt_repr : bootBuiltins "repr" = some (.builtin "repr") := by decide +kernel
theorem bt_isinstance : bootBuiltins "isinstance" = some (.builtin "isinstance") := by decide +kernel
theorem bt_str : bootBuiltins "str" = some (.type "str") := by decide +kernel
section
variable {X : Cx} {K : PySem.W.Frag}
theorem call_lenK (h : X.K = K) : CallR X (.builtin "len") (rLenS K) := by
  subst h
  exact call_len_seq
theorem cr_sumK (h : X.K = K) (hc : X.calm = true) : CallR X (.builtin "sum") (rSum K) := by
  subst h
  exact cr_sum hc
theorem cr_allK (h : X.K = K) (hc : X.calm = true) : CallR X (.builtin "all") (rAll K) := by
  subst h
  exact cr_all hc
theorem call_listK (h : X.K = K) : CallR X (.type "list") (fun xs H Q => ∃ p ys, xs = [.ref p] ∧ (SqL K H p ys ∨ SqT K H p ys) ∧ ∀ l, H l = none → Q (.ref l) (upd H l (.lst ys))) := by
  subst h
  exact call_list_of
theorem call_tupleK (h : X.K = K) : CallR X (.type "tuple") (rTupOf K) := by
  subst h
  exact call_tuple_of
theorem call_reprK (h : X.K = K) (hg : X.A.guards = some []) (hu : X.A.units + 64 < cLine) : CallR X (.builtin "repr") (rRepr K) := by
  subst h
  exact call_repr hg hu
theorem call_isiK' (h : X.K = K) : CallR X (.builtin "isinstance") (rIsi K) := by
  subst h
  exact call_isi
theorem ix_listK (h : X.K = K) : IxR X (rIxL K) := by
  subst h
  exact ix_list
theorem ix_tupK (h : X.K = K) : IxR X (rIxT K) := by
  subst h
  exact ix_tup
theorem sl_listK (h : X.K = K) : SlR X (rSlL K) := by
  subst h
  exact sl_list
theorem op_eqDK (h : X.K = K) (hu : X.A.units + 64 < cLine) : OpR X (compareOp .Eq) (rEqD K) := by
  subst h
  exact op_eqD hu
theorem op_neDK (h : X.K = K) (hu : X.A.units + 64 < cLine) : OpR X (compareOp .NotEq) (rNeD K) := by
  subst h
  exact op_neD hu
theorem pi_listK {tg e : Expr} {te : TE} (h : X.K = K) (he : PE X e te) : PI X tg e (iList K te) := by
  subst h
  exact pi_list he
theorem pi_tupK {tg e : Expr} {te : TE} (h : X.K = K) (he : PE X e te) : PI X tg e (iTup K te) := by
  subst h
  exact pi_tup he
end
end Bk
namespace Bk
open PySem PySem.Spec PyProof.Rows L2 Evl
/-! ### a list of the numbers below its length, each once -/
theorem len_le {n : Nat} : ∀ {l : List Int}, l.Nodup → (∀ x ∈ l, 0 ≤ x ∧ x < n) → l.length ≤ n := by
  induction n with
  | zero =>
    intro l _ h
    cases l with
    | nil => exact Nat.le_refl _
    | cons a r =>
      have := h a List.mem_cons_self
      omega
  | succ n ih =>
    intro l hn h
    have h1 := ih (l := l.erase (n : Int)) (hn.erase _) fun x hx => by
      have m := hn.mem_erase_iff.mp hx
      have := h x m.2
      have := m.1
      omega
    rw [List.length_erase] at h1
    split at h1 <;> omega
theorem perm_iota {n : Nat} : ∀ {l : List Int}, l.Nodup → (∀ x ∈ l, 0 ≤ x ∧ x < n) → l.length = n → l.Perm (iota n) := by
  induction n with
  | zero =>
    intro l _ _ hl
    have : l = [] := List.length_eq_zero_iff.mp hl
    subst this
    exact List.Perm.refl _
  | succ n ih =>
    intro l hn h hl
    have hm : (n : Int) ∈ l := by
      refine Classical.byContradiction fun c => ?_
      have := len_le (n := n) hn fun x hx => by
        have := h x hx
        have : x ≠ (n : Int) := fun e => c (e ▸ hx)
        omega
      omega
    have p := List.perm_cons_erase hm
    have h1 := ih (l := l.erase (n : Int)) (hn.erase _) (fun x hx => by
      have m := hn.mem_erase_iff.mp hx
      have := h x m.2
      have := m.1
      omega) (by
      have := p.length_eq
      rw [List.length_cons] at this
      omega)
    have e : iota (n + 1) = iota n ++ [(n : Int)] := by
      unfold iota
      rw [List.range_succ, List.map_append]
      rfl
    rw [e]
    exact p.trans ((List.Perm.cons _ h1).trans (List.perm_append_comm (l₁ := [(n : Int)]) (l₂ := iota n)))
section
variable {K : PySem.W.Frag} {σ : L2.St} {H H' : Hp} {ta tb te tl ti : TE} {t u : TT} {x y z v : V} {D : Ends} {tu tz : TS} {a : Addr} {d d1 d2 n : Nat} {P P1 P2 : V → Prop}
/-- t + u of tuples -/
theorem eu_catT {p : Addr} {xs ys : List V} (ha : Ev ta σ H (.ref p)) (hb : EvU tb σ H ys) (h : SqT K H p xs) (h0 : xs ≠ []) (h1 : ys ≠ []) (hz : xs.length + ys.length ≤ 100000) : EvU (tOp (rCatT K) ta tb) σ H (xs ++ ys) := fun H1 e Q k =>
  ha H1 e _ fun H2 e2 => hb H2 (e.trans e2) _ fun r H3 hr e3 h3 => ⟨p, r, xs, ys, rfl, rfl, ex_t ((e.trans e2).trans e3) h, st_of h3, h0, sz_of hz, fun c => (h1 c).elim, fun _ l hl => k l _ (fresh_back (e2.trans e3) hl) ((e2.trans e3).trans (Ex.new hl)) upd_same⟩
theorem op_catTK {X : Cx} (h : X.K = K) : OpR X (binaryOp .Add) (rCatT K) := by
  subst h
  exact op_catT
/-! arguments with draws -/
def EvWA (a : Addr) (d : Nat) (te : TA) (σ : L2.St) (H : Hp) (P : List V → Prop) : Prop := ∀ (n : Nat) (H1 : Hp), But a H H1 → Well H1 a n → n + d ≤ 2 ^ 50 → ∀ Q : List V → Hp → Prop, (∀ vs H2, But a H1 H2 → Well H2 a (n + d) → P vs → Q vs H2) → te σ H1 Q
theorem ewa_nil : EvWA a 0 tNil σ H (fun vs => vs = []) := fun n H1 b w l Q q => q [] H1 (But.refl a H1) w rfl
theorem ewa_cons {tr : TA} {PL : List V → Prop} (h : EvW a d1 te σ H P) (hr : EvWA a d2 tr σ H PL) : EvWA a (d1 + d2) (tCons te tr) σ H (fun vs => ∃ x xs, vs = x :: xs ∧ P x ∧ PL xs) := fun n H1 b w l Q q =>
  h n H1 b w (by omega) _ fun x H2 b2 w2 px => hr (n + d1) H2 (b.trans b2) w2 (by omega) _ fun xs H3 b3 w3 pl => q _ H3 (b2.trans b3) (by
    rw [← Nat.add_assoc]
    exact w3) ⟨x, xs, rfl, px, pl⟩
theorem ewl_lst {t : TA} {PL : List V → Prop} (h : EvWA a d t σ H PL) (hz : ∀ xs, PL xs → xs.length ≤ 100000) : EvWL a d (tLst t) σ H PL := fun n H1 b w l Q q =>
  h n H1 b w l _ fun xs H2 b2 w2 pl => ⟨sz_of (hz xs pl), fun p hp => q p xs _ (but_free b2 w2 hp) (b2.trans (But.new hp)) (w2.ex (Ex.new hp)) upd_same pl⟩
theorem ew_ixW {PL : List V → Prop} (hl : EvWL a d1 tl σ H PL) (hi : EvW a d2 ti σ H P) (hP : ∀ xs v, PL xs → P v → ∃ (i : Int) (x : V), v = .int i ∧ atI xs i = some x ∧ P1 x) : EvW a (d1 + d2) (tOp (rIxL K) tl ti) σ H P1 := fun n H1 b w l Q q =>
  hl n H1 b w (by omega) _ fun p xs H2 hp b2 w2 h2 px => hi (n + d1) H2 (b.trans b2) w2 (by omega) _ fun v H3 b3 w3 pv => by
    obtain ⟨i, x, rfl, hx, px'⟩ := hP xs v px pv
    rw [Nat.add_assoc] at w3
    exact ⟨p, xs, i, x, rfl, rfl, sq_of (b3 p _ (w.ne hp) h2), hx, q x H3 (b2.trans b3) w3 px'⟩
theorem ew_weak (h : EvW a d te σ H P) (l : d ≤ d1) : EvW a d1 te σ H P := fun n H1 b w hl Q q => h n H1 b w (by omega) Q fun v H2 b2 w2 p => q v H2 b2 (w2.mono (by omega)) p
theorem ew_if {b : Bool} (ht : EvT t σ (hid a H) b) (h1 : b = true → EvW a d ta σ H P) (h2 : b = false → EvW a d tb σ H P) : EvW a d (tIf t ta tb) σ H P := fun n H1 bt w l Q q =>
  ht H1 (ex_hid bt) _ fun H2 e2 => by
    have q' : ∀ v H3, But a H2 H3 → Well H3 a (n + d) → P v → Q v H3 := fun v H3 b3 w3 p => q v H3 ((But.ex e2).trans b3) w3 p
    cases b with
    | true => exact iteT (h1 rfl n H2 (bt.trans (But.ex e2)) (w.ex e2) l Q q')
    | false => exact iteF (h2 rfl n H2 (bt.trans (But.ex e2)) (w.ex e2) l Q q')
/-! range(a, b, c) upwards -/
theorem RgC.up {j c : Int} (h0 : 0 ≤ j) (h1 : j ≤ 100000) (c0 : 0 < c) (c1 : c ≤ 100000) : ∃ n : Nat, RgC 0 j c n ∧ ∀ k : Nat, k < n → (k : Int) * c < j := by
  have hs : Builtin.Range.rangeSize 0 j c = (if 0 < j then (j - 0 - 1) / c + 1 else 0) := by
    unfold Builtin.Range.rangeSize
    rw [if_pos c0]
  have hd0 : 0 < j → 0 ≤ (j - 0 - 1) / c := fun h => Int.ediv_nonneg (by omega) (by omega)
  have hd1 : 0 < j → (j - 0 - 1) / c ≤ j - 0 - 1 := fun h => Int.ediv_le_self _ (by omega)
  refine ⟨(if 0 < j then (j - 0 - 1) / c + 1 else 0).toNat, ⟨by omega, by omega, ?_, ?_⟩, ?_⟩
  · unfold Builtin.Range.small
    rw [hs]
    simp only [Builtin.Range.rangeFitsLong, Bool.and_eq_true, Bool.or_eq_true, decide_eq_true_eq, beq_iff_eq, if_pos c0]
    by_cases hj : 0 < j
    · have := hd0 hj
      have := hd1 hj
      rw [if_pos hj]
      omega
    · rw [if_neg hj]
      omega
  · rw [hs, Int.toNat_of_nonneg]
    split
    · have := hd0 (by assumption)
      omega
    · omega
  · intro k hk
    by_cases hj : 0 < j
    · rw [if_pos hj] at hk
      have h2 : (k : Int) ≤ (j - 0 - 1) / c := by
        have := hd0 hj
        omega
      have := (Int.le_ediv_iff_mul_le c0).mp h2
      omega
    · rw [if_neg hj] at hk
      exact absurd hk (Nat.not_lt_zero _)
theorem q_forR3 {ta : TA} {i : Nat} {j c : Int} (h : EvA ta σ H [.int 0, .int j, .int c]) (h0 : 0 ≤ j) (h1 : j ≤ 100000) (c0 : 0 < c) (c1 : c ≤ 100000) (Pv : Nat → L2.St → Hp → Prop) (hp0 : ∀ H1, Ex H H1 → Pv 0 σ H1)
    (hs : ∀ (k : Nat) σ' H', (k : Int) * c < j → Pv k σ' H' → tu { D with nx := Pv (k + 1), ct := Pv (k + 1), bk := tz D } (σ'.set i (some (.int ((k : Int) * c)))) H') (hd : ∀ k σ' H', Pv k σ' H' → tz D σ' H') : tSeq (tFor (iRng3 ta) (gName i) tu) tz D σ H := by
  obtain ⟨n, hr, hn⟩ := RgC.up h0 h1 c0 c1
  refine h H (Ex.refl H) _ fun H1 e1 => ⟨0, j, c, n, rfl, hr, for_rangeC (lo := 0) (c := c) (n := n) Pv (hp0 H1 e1) (fun k σ' H' hk p => ?_) fun σ' H' p => hd n σ' H' p⟩
  have e0 : (0 : Int) + (k : Int) * c = (k : Int) * c := Int.zero_add _
  show tu { D with nx := Pv (k + 1), ct := Pv (k + 1), bk := tz D } (σ'.set i (some (.int ((0 : Int) + (k : Int) * c)))) H'
  rw [e0]
  exact hs k σ' H' (hn k hk) p
/-- three new tuples, drawn -/
theorem qw_par3U {i j l : Nat} {tc : TE} {d3 : Nat} {PA PB PC : List V → Prop} (h1 : EvWU a d1 ta σ H PA) (h2 : EvWU a d2 tb σ H PB) (h3 : EvWU a d3 tc σ H PC) (w : Well H a n) (hl : n + (d1 + d2 + d3) ≤ 2 ^ 50)
    (k : ∀ p q r xs ys zs H1, H p = none → H q = none → H r = none → But a H H1 → Well H1 a (n + (d1 + d2 + d3)) → H1 p = some (.tup xs) → H1 q = some (.tup ys) → H1 r = some (.tup zs) → PA xs → PB ys → PC zs →
      tz D (((σ.set i (some (.ref p))).set j (some (.ref q))).set l (some (.ref r))) H1) : tSeq (tPar3 i j l (tCons ta (tCons tb (tCons tc tNil)))) tz D σ H :=
  h1 n H (But.refl a H) w (by omega) _ fun p xs H2 hp b2 w2 g2 pa => h2 (n + d1) H2 b2 w2 (by omega) _ fun q ys H3 hq b3 w3 g3 pb => h3 (n + d1 + d2) H3 (b2.trans b3) w3 (by omega) _ fun r zs H4 hr b4 w4 g4 pc => by
    refine ⟨_, _, _, rfl, k p q r xs ys zs H4 hp (but_free b2 w2 hq) (but_free (b2.trans b3) w3 hr) ((b2.trans b3).trans b4) ?_ (b4 _ _ (w.ne hp) (b3 _ _ (w.ne hp) g2)) (b4 _ _ (w2.ne hq) g3) g4 pa pb pc⟩
    rw [show n + (d1 + d2 + d3) = n + d1 + d2 + d3 by omega]
    exact w4
theorem qw_par3L {i j l : Nat} {tc : TE} {d3 : Nat} {PA PB PC : List V → Prop} (h1 : EvWL a d1 ta σ H PA) (h2 : EvWL a d2 tb σ H PB) (h3 : EvWL a d3 tc σ H PC) (w : Well H a n) (hl : n + (d1 + d2 + d3) ≤ 2 ^ 50)
    (k : ∀ p q r xs ys zs H1, H p = none → H q = none → H r = none → But a H H1 → Well H1 a (n + (d1 + d2 + d3)) → H1 p = some (.lst xs) → H1 q = some (.lst ys) → H1 r = some (.lst zs) → PA xs → PB ys → PC zs →
      tz D (((σ.set i (some (.ref p))).set j (some (.ref q))).set l (some (.ref r))) H1) : tSeq (tPar3 i j l (tCons ta (tCons tb (tCons tc tNil)))) tz D σ H :=
  h1 n H (But.refl a H) w (by omega) _ fun p xs H2 hp b2 w2 g2 pa => h2 (n + d1) H2 b2 w2 (by omega) _ fun q ys H3 hq b3 w3 g3 pb => h3 (n + d1 + d2) H3 (b2.trans b3) w3 (by omega) _ fun r zs H4 hr b4 w4 g4 pc => by
    refine ⟨_, _, _, rfl, k p q r xs ys zs H4 hp (but_free b2 w2 hq) (but_free (b2.trans b3) w3 hr) ((b2.trans b3).trans b4) ?_ (b4 _ _ (w.ne hp) (b3 _ _ (w.ne hp) g2)) (b4 _ _ (w2.ne hq) g3) g4 pa pb pc⟩
    rw [show n + (d1 + d2 + d3) = n + d1 + d2 + d3 by omega]
    exact w4
end
end Bk
namespace Bk
open PySem PySem.Spec PyProof.Rows L2 Evl
/-! ### lists of lists of numbers -/
def up (r : List Nat) : List Int := r.map fun k : Nat => (k : Int)
theorem up_length (r : List Nat) : (up r).length = r.length := by simp [up]
def Nest (H : Hp) (qs : List Addr) (R : List (List Nat)) : Prop := qs.length = R.length ∧ ∀ (i : Nat) (q : Addr) (r : List Nat), qs[i]? = some q → R[i]? = some r → H q = some (.lst (vi (up r)))
section
variable {K : PySem.W.Frag} {σ : L2.St} {H H1 H' : Hp} {qs : List Addr} {R : List (List Nat)} {p q : Addr} {r : List Nat} {ta tb te tl : TE} {t u : TT} {x y z v : V} {D : Ends} {tu tw tz : TS}
theorem Nest.nil : Nest H [] [] := ⟨rfl, fun _ _ _ h => nomatch h⟩
theorem Nest.ex (h : Nest H qs R) (e : Ex H H1) : Nest H1 qs R := ⟨h.1, fun i q r a b => e _ _ (h.2 i q r a b)⟩
theorem Nest.but (h : Nest H qs R) (e : But p H H1) (n : ∀ q ∈ qs, q ≠ p) : Nest H1 qs R := ⟨h.1, fun i q r a b => e _ _ (n q (List.mem_of_getElem? a)) (h.2 i q r a b)⟩
theorem Nest.upd {o : HO} (h : Nest H qs R) (n : ∀ q ∈ qs, q ≠ p) : Nest (L2.upd H p o) qs R := ⟨h.1, fun i q r a b => by
  rw [upd_ne (n q (List.mem_of_getElem? a))]
  exact h.2 i q r a b⟩
theorem Nest.some (h : Nest H qs R) (hq : q ∈ qs) : ∃ o, H q = some o := by
  obtain ⟨i, hi, e⟩ := List.getElem_of_mem hq
  have hi' : i < R.length := h.1 ▸ hi
  exact ⟨_, h.2 i q R[i] (by rw [← e, List.getElem?_eq_getElem hi]) (List.getElem?_eq_getElem hi')⟩
theorem Nest.ne (_ : Nest H qs R) (h : Nest H1 qs R) (hq : q ∈ qs) (n : H1 p = none) : q ≠ p := fun e => by
  obtain ⟨o, ho⟩ := h.some hq
  rw [e, n] at ho
  cases ho
theorem Nest.put (h : Nest H qs R) (hq : H q = Option.some (.lst (vi (up r)))) : Nest H (qs ++ [q]) (R ++ [r]) := by
  refine ⟨by rw [List.length_append, List.length_append, h.1]; rfl, fun i q' r' a b => ?_⟩
  by_cases c : i < qs.length
  · rw [List.getElem?_append_left c] at a
    rw [List.getElem?_append_left (h.1 ▸ c)] at b
    exact h.2 i q' r' a b
  · rw [List.getElem?_append_right (by omega)] at a
    rw [List.getElem?_append_right (by have := h.1; omega)] at b
    rw [← h.1] at b
    match hi : i - qs.length, a, b with
    | 0, a, b =>
      cases a
      cases b
      exact hq
    | k + 1, a, b => cases a
theorem ne_of_none' {o : HO} {a b : Addr} (n : H a = none) (h : H b = some o) : a ≠ b := fun e => by
  rw [e, h] at n
  cases n
theorem rings_le {R : List (List Nat)} (h : ∀ r ∈ R, 0 < r.length) : R.length ≤ R.flatten.length := by
  induction R with
  | nil => exact Nat.le_refl _
  | cons a R ih =>
    rw [List.flatten_cons, List.length_append, List.length_cons]
    have := h a List.mem_cons_self
    have := ih fun r hr => h r (List.mem_cons_of_mem _ hr)
    omega
def RetN (R : List (List Nat)) (H : Hp) (Q : VK) : Prop := ∀ p qs H2, H p = none → Ex H H2 → H2 p = some (.lst (qs.map .ref)) → Nest H2 qs R → (∀ q ∈ qs, H q = none) → Q (.ref p) H2
def SpN (sp : Sp) (vs : List V) (H : Hp) (R : List (List Nat)) : Prop := ∀ H1, Ex H H1 → ∀ Q : VK, RetN R H1 Q → ∀ E : XK, sp vs H1 Q E
def EvN (te : TE) (σ : L2.St) (H : Hp) (R : List (List Nat)) : Prop := ∀ H1, Ex H H1 → ∀ Q : VK, RetN R H1 Q → te σ H1 Q
theorem en_call {sp : Sp} {vs : List V} {E : XK} {ta : TA} (h : EvA ta σ H vs) (hs : SpN sp vs H R) : EvN (tCall sp [] E ta) σ H R := fun H1 e Q q =>
  h H1 e _ fun H2 e2 => by
    have := hs H2 (e.trans e2) Q (fun p qs H3 hp e3 h3 n f => q p qs H3 (fresh_back e2 hp) (e2.trans e3) h3 n fun b hb => fresh_back e2 (f b hb)) E
    rw [← List.append_nil vs] at this
    exact this
/-- a comprehension over it -/
theorem el_lcN {j : Nat} {vs : List Nat} (f : Nat → Bool) (v : Nat → V) (h : EvN tl σ H R) (hz : R.length ≤ 40000) (hw : ∀ x, wipe ((wipe σ vs).set j (some x)) vs = wipe σ vs)
    (ht : ∀ (i : Nat) q r H1, Ex H H1 → R[i]? = some r → H1 q = some (.lst (vi (up r))) → EvT t ((wipe σ vs).set j (some (.ref q))) H1 (f i)) (he : ∀ (i : Nat) q r H1, Ex H H1 → R[i]? = some r → H1 q = some (.lst (vi (up r))) → f i = true → Ev te ((wipe σ vs).set j (some (.ref q))) H1 (v i)) :
    EvL (tLc (iList K tl) (gName j) t te vs) σ H (given R.length f v) := fun H0 e Q q => h H0 e _ fun a qs H1 ha e1 hx nq _ => ⟨a, rfl, ⟨qs.map .ref, sq_of hx⟩, fun Dl hD =>
  lc_list (xs := qs.map .ref) (Cw H1 f v Dl) ⟨hD, Ex.new hD, upd_same⟩ (fun i H' _ p => sq_of (p.2.1 a _ hx)) (fun i x H' hi p => by
    rw [List.getElem?_map] at hi
    cases g : qs[i]? with
    | none => rw [g] at hi; cases hi
    | some b =>
      rw [g] at hi
      cases hi
      have hl := (List.getElem?_eq_some_iff.mp g).1
      have hlr : i < R.length := nq.1 ▸ hl
      have hR : R[i]? = some R[i] := List.getElem?_eq_getElem hlr
      have hb := nq.2 i b _ g hR
      refine ⟨hw _, cw_turn p (by have := nq.1; omega) (ht i b _ H1 (e.trans e1) hR hb) (fun hf => he i b _ H1 (e.trans e1) hR hb hf)⟩)
    (fun H' p => q Dl H' (fresh_back e1 p.1) (e1.trans p.2.1) (by
      have := p.2.2
      rw [List.length_map, nq.1] at this
      exact this))⟩
/-- a loop over it -/
theorem s_forN {j : Nat} (h : EvN tl σ H R) (Pv : Addr → List Addr → Nat → L2.St → Hp → Prop) (h0 : ∀ p qs H1, H p = none → Ex H H1 → H1 p = some (.lst (qs.map .ref)) → Nest H1 qs R → (∀ q ∈ qs, H q = none) → Pv p qs 0 σ H1)
    (hl : ∀ p qs i σ' H', i ≤ R.length → Pv p qs i σ' H' → H' p = some (.lst (qs.map .ref)) ∧ Nest H' qs R)
    (hs : ∀ p qs i q r σ' H', R[i]? = some r → H' q = some (.lst (vi (up r))) → q ∈ qs → Pv p qs i σ' H' → tu { D with nx := Pv p qs (i + 1), ct := Pv p qs (i + 1), bk := D.nx } (σ'.set j (some (.ref q))) H') (hd : ∀ p qs σ' H', Pv p qs R.length σ' H' → D.nx σ' H') : tFor (iList K tl) (gName j) tu D σ H :=
  h H (Ex.refl H) _ fun p qs H1 hp e h1 nq fq => ⟨p, rfl, ⟨qs.map .ref, sq_of h1⟩, for_list (Pv p qs) (h0 p qs H1 hp e h1 nq fq) (fun i σ' H' hi k => sq_of (hl p qs i σ' H' (by rw [List.length_map, nq.1] at hi; exact hi) k).1) (fun i x σ' H' hx k => by
    rw [List.getElem?_map] at hx
    cases g : qs[i]? with
    | none => rw [g] at hx; cases hx
    | some b =>
      rw [g] at hx
      cases hx
      have hlt := (List.getElem?_eq_some_iff.mp g).1
      have hlr : i < R.length := nq.1 ▸ hlt
      have hR : R[i]? = some R[i] := List.getElem?_eq_getElem hlr
      exact hs p qs i b _ σ' H' hR ((hl p qs i σ' H' (Nat.le_of_lt hlr) k).2.2 i b _ g hR) (List.mem_of_getElem? g) k) (fun σ' H' k => hd p qs σ' H' (by rw [List.length_map, nq.1] at k; exact k))⟩
theorem q_forN {j : Nat} (h : EvN tl σ H R) (Pv : Addr → List Addr → Nat → L2.St → Hp → Prop) (h0 : ∀ p qs H1, H p = none → Ex H H1 → H1 p = some (.lst (qs.map .ref)) → Nest H1 qs R → (∀ q ∈ qs, H q = none) → Pv p qs 0 σ H1)
    (hl : ∀ p qs i σ' H', i ≤ R.length → Pv p qs i σ' H' → H' p = some (.lst (qs.map .ref)) ∧ Nest H' qs R)
    (hs : ∀ p qs i q r σ' H', R[i]? = some r → H' q = some (.lst (vi (up r))) → q ∈ qs → Pv p qs i σ' H' → tu { D with nx := Pv p qs (i + 1), ct := Pv p qs (i + 1), bk := tz D } (σ'.set j (some (.ref q))) H') (hd : ∀ p qs σ' H', Pv p qs R.length σ' H' → tz D σ' H') : tSeq (tFor (iList K tl) (gName j) tu) tz D σ H :=
  s_forN (D := { D with nx := tz D }) h Pv h0 hl hs hd
end
end Bk
namespace Bk
open PySem PySem.Spec PyProof.Rows L2 Evl
/-! ### tests and calls with drawn parts -/
def EvWT (a : Addr) (d : Nat) (t : TT) (σ : L2.St) (H : Hp) (b : Bool) : Prop := ∀ (n : Nat) (H1 : Hp), But a H H1 → Well H1 a n → n + d ≤ 2 ^ 50 → ∀ Q : Bool → Hp → Prop, (∀ H2, But a H1 H2 → Well H2 a (n + d) → Q b H2) → t σ H1 Q
section
variable {K : PySem.W.Frag} {σ : L2.St} {H : Hp} {ta tb te ti tl : TE} {t u : TT} {a : Addr} {d d1 d2 n : Nat} {P P1 P2 : V → Prop} {v x y : V} {b : Bool} {D : Ends} {tu tw tz : TS} {sp : Sp} {E : XK}
theorem ewt_test (h : EvW a d te σ H (fun v => v = .bl b)) : EvWT a d (tTest te) σ H b := fun n H1 bt w l Q q => h n H1 bt w l _ fun v H2 b2 w2 e => ⟨b, e, q H2 b2 w2⟩
theorem ewt_B (h : EvW a d te σ H (fun v => v = .bl b)) : EvWT a d (tB te) σ H b := fun n H1 bt w l Q q => h n H1 bt w l _ fun v H2 b2 w2 e => ⟨b, e, q H2 b2 w2⟩
theorem ewt_not {c : Bool} (h : EvWT a d t σ H c) : EvWT a d (tNot t) σ H (!c) := fun n H1 bt w l Q q => h n H1 bt w l _ fun H2 b2 w2 => q H2 b2 w2
theorem qw_when (h : EvWT a d t σ H b) (w : Well H a n) (l : n + d ≤ 2 ^ 50) (k1 : b = true → ∀ H1, But a H H1 → Well H1 a (n + d) → tu { D with nx := tz D } σ H1) (k2 : b = false → ∀ H1, But a H H1 → Well H1 a (n + d) → tw { D with nx := tz D } σ H1) : tSeq (tIfS t tu tw) tz D σ H :=
  h n H (But.refl a H) w l _ fun H2 b2 w2 => by
    cases b with
    | true => exact iteT (k1 rfl H2 b2 w2)
    | false => exact iteF (k2 rfl H2 b2 w2)
theorem sw_when (h : EvWT a d t σ H b) (w : Well H a n) (l : n + d ≤ 2 ^ 50) (k1 : b = true → ∀ H1, But a H H1 → Well H1 a (n + d) → tu D σ H1) (k2 : b = false → ∀ H1, But a H H1 → Well H1 a (n + d) → tw D σ H1) : tIfS t tu tw D σ H :=
  h n H (But.refl a H) w l _ fun H2 b2 w2 => by
    cases b with
    | true => exact iteT (k1 rfl H2 b2 w2)
    | false => exact iteF (k2 rfl H2 b2 w2)
theorem sw_ret (h : EvW a d te σ H P) (w : Well H a n) (l : n + d ≤ 2 ^ 50) (k : ∀ v H1, But a H H1 → Well H1 a (n + d) → P v → D.rt v H1) : tRet te D σ H := h n H (But.refl a H) w l _ k
/-- f(drawn tuple) -/
theorem ew_callU {PU : List V → Prop} (h : EvWU a d te σ H PU) (hs : ∀ p xs H1, H1 p = some (.tup xs) → PU xs → SpV sp [.ref p] H1 v) : EvW a d (tCall sp [] E (tCons te tNil)) σ H (fun z => z = v) := fun n H1 bt w l Q q =>
  h n H1 bt w l _ fun p xs H2 hp b2 w2 h2 pu => hs p xs H2 h2 pu H2 (Ex.refl H2) Q (fun H3 e3 => q v H3 (b2.trans (But.ex e3)) (w2.ex e3) rfl) E
theorem ew_callUV {PU : List V → Prop} (h : EvWU a d1 te σ H PU) (h' : EvW a d2 ti σ H P) (hs : ∀ p xs x H1, H1 p = some (.tup xs) → PU xs → P x → SpV sp [.ref p, x] H1 v) : EvW a (d1 + d2) (tCall sp [] E (tCons te (tCons ti tNil))) σ H (fun z => z = v) := fun n H1 bt w l Q q =>
  h n H1 bt w (by omega) _ fun p xs H2 hp b2 w2 h2 pu => h' (n + d1) H2 (bt.trans b2) w2 (by omega) _ fun x H3 b3 w3 px => hs p xs x H3 (b3 _ _ (w.ne hp) h2) pu px H3 (Ex.refl H3) Q (fun H4 e4 => q v H4 ((b2.trans b3).trans (But.ex e4)) (by
    have := w3.ex e4
    rw [Nat.add_assoc] at this
    exact this) rfl) E
/-- draw > 0 or f(..) -/
theorem ew_orV {c : Bool} (h1 : EvW a d1 ta σ H (fun v => ∃ b, v = .bl b)) (h2 : EvW a d2 tb σ H (fun v => v = .bl true)) : EvW a (d1 + d2) (tOrV ta tb) σ H (fun v => v = .bl true) := fun n H1 bt w l Q q =>
  h1 n H1 bt w (by omega) _ fun v H2 b2 w2 ⟨b, e⟩ => ⟨b, e, by
    cases b with
    | true => exact iteT (q _ H2 b2 (w2.mono (by omega)) rfl)
    | false => exact iteF (h2 (n + d1) H2 (bt.trans b2) w2 (by omega) Q fun v H3 b3 w3 e => q v H3 (b2.trans b3) (by
        rw [Nat.add_assoc] at w3
        exact w3) e)⟩
theorem ew_gt {P1 P2 : Int → Prop} (h1 : EvW a d1 ta σ H (fun v => ∃ r, v = .int r ∧ P1 r)) (h2 : EvW a d2 tb σ H (fun v => ∃ r, v = .int r ∧ P2 r)) : EvW a (d1 + d2) (tOp (rI0 fun i j => .bl (decide (j < i))) ta tb) σ H (fun v => ∃ b, v = .bl b) :=
  ew_op h1 h2 fun x y ⟨i, ei, p⟩ ⟨j, ej, p'⟩ => ⟨.bl (decide (j < i)), fun H => by
    rw [ei, ej]
    exact rv_b rfl, _, rfl⟩
theorem ew_sub {P1 P2 P : Int → Prop} (h1 : EvW a d1 ta σ H (fun v => ∃ r, v = .int r ∧ P1 r)) (h2 : EvW a d2 tb σ H (fun v => ∃ r, v = .int r ∧ P2 r)) (h : ∀ x y, P1 x → P2 y → P (x - y)) :
    EvW a (d1 + d2) (tOp (rI0 fun i j => .int (i - j)) ta tb) σ H (fun v => ∃ r, v = .int r ∧ P r) :=
  ew_op h1 h2 fun x y ⟨i, ei, p⟩ ⟨j, ej, p'⟩ => ⟨.int (i - j), fun H => by
    rw [ei, ej]
    exact rv_I0, i - j, rfl, h i j p p'⟩
end
section
variable {K : PySem.W.Frag} {σ : L2.St} {H : Hp} {ta tb : TE} {D : Ends} {tz : TS}
/-- x, y = ([..], [..]) by a tuple -/
theorem q_tupLL {i j : Nat} {xs ys : List V} (h1 : EvL ta σ H xs) (h2 : ∀ p H1, H p = none → Ex H H1 → H1 p = some (.lst xs) → EvL tb σ H1 ys) (k : ∀ p q H1, H p = none → H q = none → p ≠ q → Ex H H1 → H1 p = some (.lst xs) → H1 q = some (.lst ys) → tz D ((σ.set i (some (.ref p))).set j (some (.ref q))) H1) :
    tSeq (tAsg (tTup (tCons ta (tCons tb tNil))) (gTup K 2 (gCons (gName i) (gCons (gName j) gNil)))) tz D σ H :=
  h1 H (Ex.refl H) _ fun p H2 hp e2 g2 => h2 p H2 hp e2 g2 H2 (Ex.refl H2) _ fun q H3 hq e3 g3 => ⟨sz_of (by show 2 ≤ 100000; decide), fun r hr => ⟨r, _, rfl, st_of upd_same, rfl, _, _, rfl, _, _, rfl, rfl, k p q _ hp (fresh_back e2 hq) (ne_of_none g2 hq) ((e2.trans e3).trans (Ex.new hr)) (Ex.new hr _ _ (e3 _ _ g2)) (Ex.new hr _ _ g3)⟩⟩
end
/-! ### lists picked -/
theorem given_filter (xs : List Int) (p : Int → Bool) : given xs.length (fun j => p (xs.getD j 0)) (fun j => V.int (xs.getD j 0)) = vi (xs.filter p) := by
  have e : xs = (List.range xs.length).map fun j => xs.getD j 0 := by
    refine List.ext_getElem? fun i => ?_
    rw [List.getElem?_map]
    by_cases hi : i < xs.length
    · rw [List.getElem?_range hi, List.getElem?_eq_getElem hi]
      show _ = some (xs.getD i 0)
      rw [List.getD_eq_getElem?_getD, List.getElem?_eq_getElem hi]
      rfl
    · rw [List.getElem?_eq_none (by omega), List.getElem?_eq_none (by rw [List.length_range]; omega)]
      rfl
  have e2 : xs.filter p = ((List.range xs.length).filter fun j => p (xs.getD j 0)).map fun j => xs.getD j 0 := by
    conv => lhs; rw [e]
    rw [List.filter_map]
    rfl
  unfold given vi
  rw [e2, List.map_map]
  rfl
theorem perm_sum {xs ys : List Int} (h : xs.Perm ys) : xs.sum = ys.sum := by
  induction h with
  | nil => rfl
  | cons x _ ih => rw [List.sum_cons, List.sum_cons, ih]
  | swap x y l => simp only [List.sum_cons]; omega
  | trans _ _ a b => exact a.trans b
end Bk
namespace Bk
open PySem PySem.Spec PyProof.Rows L2 Evl
/-! ### xs.count(k) -/
def rLCount : V → List V → Hp → VK → Prop := fun x vs H Q => ∃ l ns k, x = .ref l ∧ vs = [.int k] ∧ H l = some (.lst (vi ns)) ∧ Q (.int (ns.count k : Nat)) H
theorem mt_lcount {X : Cx} : MtM X "list.count" rLCount := by
  intro pins s σ H x vs v us Q I rx rv h
  obtain ⟨l, ns, k, rfl, rfl, hH, q⟩ := h
  cases rx
  obtain ⟨u, rfl, ru⟩ := rv.one
  obtain ⟨t, rfl⟩ := ru
  obtain ⟨z, its, n, r, hl, e⟩ := I.lstM hH
  exact count_list_ints ⟨_, e, rfl, n, rfl⟩ r.ints ⟨.int (ns.count k : Nat), H, I.tok _, ⟨_, rfl⟩, q⟩
section
variable {K : PySem.W.Frag} {σ : L2.St} {H : Hp} {ta tb : TE}
theorem ev_lcount {l : Addr} {ns : List Int} {k : Int} (ha : Ev ta σ H (.ref l)) (h : H l = some (.lst (vi ns))) (hb : Ev tb σ H (.int k)) : Ev (tBM K "list" rLCount ta (tCons tb tNil)) σ H (.int ((ns.count k : Nat) : Int)) := fun H1 e Q q =>
  ha H1 e _ fun H2 e2 => ⟨Or.inl ⟨rfl, _, sq_of ((e.trans e2) _ _ h)⟩, hb H2 (e.trans e2) _ fun H3 e3 => ⟨l, ns, k, rfl, rfl, ((e.trans e2).trans e3) _ _ h, q H3 (e2.trans e3)⟩⟩
variable {tb' : TE} {D : Ends}
theorem s_parVV {i j : Nat} {x y : V} (h1 : Ev ta σ H x) (h2 : Ev tb σ H y) (k : ∀ H1, Ex H H1 → D.nx ((σ.set i (some x)).set j (some y)) H1) :
    tPar i j (tCons ta (tCons tb tNil)) D σ H :=
  h1 H (Ex.refl H) _ fun H2 e2 => h2 H2 e2 _ fun H3 e3 => ⟨_, _, rfl, k H3 (e2.trans e3)⟩
end
end Bk
namespace Bk
open PySem PySem.Spec PyProof.Rows L2 Evl
section
variable {K : PySem.W.Frag} {σ : L2.St} {H : Hp} {ta tb : TE}
theorem el_listT {p : Addr} {xs : List V} (ha : Ev ta σ H (.ref p)) (h : SqT K H p xs) : EvL (tCB (rListS K) (tCons ta tNil)) σ H xs := fun H1 e Q q =>
  ha H1 e _ fun H2 e2 => ⟨p, xs, rfl, Or.inr (ex_t (e.trans e2) h), fun l hl => q l _ (fresh_back e2 hl) (e2.trans (Ex.new hl)) upd_same⟩
theorem eu_rg1 {n : Int} (ha : Ev ta σ H (.int n)) (h0 : 0 ≤ n) (hn : n ≤ 100000) : EvU (tTupRg (tRg1 ta)) σ H (rgV 0 n) := fun H1 e Q q =>
  ha H1 e _ fun H2 e2 => ⟨n, rfl, RgOk.of_le (by omega) (by omega) (by omega) h0, fun l hl => q l _ (fresh_back e2 hl) (e2.trans (Ex.new hl)) upd_same⟩
theorem ev_neg {i : Int} (ha : Ev ta σ H (.int i)) : Ev (tUn (rU fun i => .int (-i)) ta) σ H (.int (-i)) := fun H1 e Q q => ha H1 e _ fun H2 e2 => ⟨i, rfl, q H2 e2⟩
end
end Bk
namespace Bk
open PySem PySem.Spec PyProof.Rows L2 Evl
/-! ### xs[i] += e, xs[i] -= e -/
def rGetL (K : PySem.W.Frag) : V → V → Hp → VK → Prop := fun x y H Q => ∃ (p : Addr) (xs : List V) (j : Nat) (v : V), x = .ref p ∧ y = .int (j : Int) ∧ SqL K H p xs ∧ xs[j]? = some v ∧ Q v H
theorem pget_list {X : Cx} : PGet X (rGetL X.K) := by
  intro pins s σ H o i ov iv Q I ro ri h
  obtain ⟨p, xs, j, v, rfl, rfl, hq, hx, q⟩ := h
  cases ro
  obtain ⟨t, rfl⟩ := ri
  obtain ⟨its, r, pl, hz⟩ := I.list hq
  obtain ⟨w, ew, rw'⟩ := r.get hx
  have hl := (List.getElem?_eq_some_iff.mp hx).1
  have hn := line63
  exact PySem.wpAny_getItem_list pl.isList (by omega) (by omega) (by simpa using ew) ⟨v, H, I, rw', q⟩
section
variable {K : PySem.W.Frag} {σ : L2.St} {H : Hp} {ta tb te ti to' : TE} {D : Ends} {tu tz : TS} {t : TT}
theorem s_augL {l : Addr} {xs : List V} {j : Nat} {a b : Int} {f : Int → Int → Int} (ho : Ev ta σ H (.ref l)) (hi : Ev ti σ H (.int (j : Int))) (hl : H l = some (.lst xs)) (hx : xs[j]? = some (.int a)) (he : Ev te σ H (.int b)) (k : ∀ H1, Ex H H1 → D.nx σ (upd H1 l (.lst (xs.set j (.int (f a b)))))) :
    tAugS ta ti te (rGetL K) (ipI f) rSetL D σ H := ho H (Ex.refl H) _ fun H1 e1 => hi H1 e1 _ fun H2 e2 =>
  ⟨l, xs, j, _, rfl, rfl, sq_of ((e1.trans e2) _ _ hl), hx, he H2 (e1.trans e2) _ fun H3 e3 => ⟨a, b, rfl, rfl, l, xs, (j : Int), j, rfl, rfl, ((e1.trans e2).trans e3) _ _ hl, ixN_nat (List.getElem?_eq_some_iff.mp hx).1, k H3 ((e1.trans e2).trans e3)⟩⟩
/-! ### range(a, b, c) upwards, from anywhere -/
theorem RgC.upG {lo j c : Int} (l0 : 0 ≤ lo) (l1 : lo ≤ 100000) (h0 : 0 ≤ j) (h1 : j ≤ 100000) (c0 : 0 < c) (c1 : c ≤ 100000) : ∃ n : Nat, RgC lo j c n ∧ (∀ k : Nat, k < n → lo + (k : Int) * c < j) ∧ j ≤ lo + (n : Int) * c := by
  have hs : Builtin.Range.rangeSize lo j c = (if lo < j then (j - lo - 1) / c + 1 else 0) := by
    unfold Builtin.Range.rangeSize
    rw [if_pos c0]
  have hd0 : lo < j → 0 ≤ (j - lo - 1) / c := fun h => Int.ediv_nonneg (by omega) (by omega)
  have hd1 : lo < j → (j - lo - 1) / c ≤ j - lo - 1 := fun h => Int.ediv_le_self _ (by omega)
  refine ⟨(if lo < j then (j - lo - 1) / c + 1 else 0).toNat, ⟨by omega, by omega, ?_, ?_⟩, ?_, ?_⟩
  · unfold Builtin.Range.small
    rw [hs]
    simp only [Builtin.Range.rangeFitsLong, Bool.and_eq_true, Bool.or_eq_true, decide_eq_true_eq, beq_iff_eq, if_pos c0]
    by_cases hj : lo < j
    · have := hd0 hj
      have := hd1 hj
      rw [if_pos hj]
      omega
    · rw [if_neg hj]
      omega
  · rw [hs, Int.toNat_of_nonneg]
    split
    · have := hd0 (by assumption)
      omega
    · omega
  · intro k hk
    by_cases hj : lo < j
    · rw [if_pos hj] at hk
      have h2 : (k : Int) ≤ (j - lo - 1) / c := by
        have := hd0 hj
        omega
      have := (Int.le_ediv_iff_mul_le c0).mp h2
      omega
    · rw [if_neg hj] at hk
      exact absurd hk (Nat.not_lt_zero _)
  · by_cases hj : lo < j
    · rw [if_pos hj]
      have := hd0 hj
      rw [Int.toNat_of_nonneg (by omega)]
      have := Int.lt_ediv_add_one_mul_self (j - lo - 1) c0
      omega
    · rw [if_neg hj]
      show j ≤ lo + (0 : Int) * c
      omega
theorem s_forR3G {ta : TA} {i : Nat} {lo j c : Int} (h : EvA ta σ H [.int lo, .int j, .int c]) (l0 : 0 ≤ lo) (l1 : lo ≤ 100000) (h0 : 0 ≤ j) (h1 : j ≤ 100000) (c0 : 0 < c) (c1 : c ≤ 100000) (Pv : Nat → L2.St → Hp → Prop) (hp0 : ∀ H1, Ex H H1 → Pv 0 σ H1)
    (hs : ∀ (k : Nat) σ' H', lo + (k : Int) * c < j → Pv k σ' H' → tu { D with nx := Pv (k + 1), ct := Pv (k + 1), bk := D.nx } (σ'.set i (some (.int (lo + (k : Int) * c)))) H') (hd : ∀ (k : Nat) σ' H', j ≤ lo + (k : Int) * c → Pv k σ' H' → D.nx σ' H') : tFor (iRng3 ta) (gName i) tu D σ H := by
  obtain ⟨n, hr, hn, he⟩ := RgC.upG l0 l1 h0 h1 c0 c1
  exact h H (Ex.refl H) _ fun H1 e1 => ⟨lo, j, c, n, rfl, hr, for_rangeC (lo := lo) (c := c) (n := n) Pv (hp0 H1 e1) (fun k σ' H' hk p => hs k σ' H' (hn k hk) p) fun σ' H' p => hd n σ' H' he p⟩
theorem q_forNEnC {xs : List V} {tl : TE} {c : Int} {i j : Nat} (h : EvL tl σ H xs) (Pv : Addr → Nat → L2.St → Hp → Prop) (h0 : ∀ p H1, H p = none → Ex H H1 → H1 p = some (.lst xs) → Pv p 0 σ H1) (hl : ∀ p n σ' H', n ≤ xs.length → Pv p n σ' H' → SqL K H' p xs)
    (hs : ∀ p n x σ' H', xs[n]? = some x → Pv p n σ' H' → ∀ H1, Ex H' H1 → tu { D with nx := Pv p (n + 1), ct := Pv p (n + 1), bk := tz D } ((σ'.set i (some (.int (c + (n : Nat))))).set j (some x)) H1) (hd : ∀ p σ' H', Pv p xs.length σ' H' → tz D σ' H') :
    tSeq (tFor (iEnumC K (tCons tl tNil) c) (g2 K i j) tu) tz D σ H := s_forNEnC (D := { D with nx := tz D }) h Pv h0 hl hs hd
theorem rv_notN {x : V} : RV (fun x y H Q => y = V.non ∧ Q (V.bl (!decide (x = V.non))) H) x .non H (.bl (!decide (x = .non))) := fun H1 e Q q => ⟨rfl, q H1 (Ex.refl H1)⟩
theorem rv_isN {x : V} : RV (fun x y H Q => y = V.non ∧ Q (V.bl (decide (x = V.non))) H) x .non H (.bl (decide (x = .non))) := fun H1 e Q q => ⟨rfl, q H1 (Ex.refl H1)⟩
/-! ### a comprehension whose items are drawn -/
theorem ewl_lcR1 {a : Addr} {d1 d2 : Nat} {N : Nat} {P : Int → Prop} {PE : V → Prop} {j : Nat} {vs : List Nat} (h : EvW a d1 te σ H (fun v => ∃ r, v = .int r ∧ P r)) (hP : ∀ r, P r → 0 ≤ r ∧ r ≤ N) (hN : N ≤ 40000) (hw : ∀ x, wipe ((wipe σ vs).set j (some x)) vs = wipe σ vs)
    (he : ∀ (i : Nat) H1, But a H H1 → EvW a d2 to' ((wipe σ vs).set j (some (.int (i : Int)))) H1 PE) :
    EvWL a (d1 + N * d2) (tLc (iRng1 (tCons te tNil)) (gName j) tYes to' vs) σ H (fun xs => ∃ r, P r ∧ (xs.length : Int) = r ∧ ∀ x ∈ xs, PE x) := fun n H0 b w l Q q =>
  h n H0 b w (by omega) _ fun v H1 b1 w1 ⟨r, er, pr⟩ => by
    subst er
    obtain ⟨r0, r1⟩ := hP r pr
    obtain ⟨m, rfl⟩ : ∃ m : Nat, r = m := ⟨r.toNat, by omega⟩
    have mle : m * d2 ≤ N * d2 := Nat.mul_le_mul_right _ (by omega)
    refine ⟨(m : Int), rfl, by omega, by omega, fun Dl hD => ?_⟩
    have nD : Dl ≠ a := w1.ne hD
    refine lc_range (lo := 0) (n := (m : Int).toNat) (fun i H' => But a H1 H' ∧ Well H' a (n + d1 + i * d2) ∧ ∃ xs, H' Dl = some (.lst xs) ∧ xs.length = i ∧ ∀ x ∈ xs, PE x) ⟨But.new hD, ?_, [], upd_same, rfl, fun x hx => nomatch hx⟩ (fun i H' hi p => ?_) (fun H' p => ?_)
    · rw [Nat.zero_mul, Nat.add_zero]
      exact w1.ex (Ex.new hD)
    · have e0 : (0 : Int) + (i : Int) = (i : Int) := Int.zero_add _
      show wipe ((wipe σ vs).set j (some (.int ((0 : Int) + (i : Int))))) vs = wipe σ vs ∧ tYes ((wipe σ vs).set j (some (.int ((0 : Int) + (i : Int))))) H' fun b H3 => if b = true then to' ((wipe σ vs).set j (some (.int ((0 : Int) + (i : Int))))) H3 fun y H4 => ∃ acc, H4 Dl = some (.lst acc) ∧ acc.length < sizeLine ∧ _ else _
      rw [e0]
      obtain ⟨p1, p2, xs, p3, p4, p5⟩ := p
      have hi' : i < m := by omega
      have ile : i * d2 + d2 ≤ m * d2 := by
        rw [← Nat.succ_mul]
        exact Nat.mul_le_mul_right _ hi'
      refine ⟨hw _, et_yes H' (Ex.refl H') _ fun H3 e3 => ?_⟩
      refine iteT (he i H3 (((b.trans b1).trans p1).trans (But.ex e3)) (n + d1 + i * d2) H3 (But.refl a H3) (p2.ex e3) (by omega) _ fun y H4 b4 w4 py => ?_)
      refine ⟨xs, b4 _ _ nD (e3 _ _ p3), sz_lt (by omega), ((p1.trans (But.ex e3)).trans b4).own hD, ?_, xs ++ [y], upd_same, by rw [List.length_append, p4]; rfl, fun x hx => ?_⟩
      · obtain ⟨x, y', c, q1, q2⟩ := w4
        refine ⟨x, y', c, by rw [upd_ne (Ne.symm nD)]; exact q1, ?_⟩
        rw [Nat.succ_mul]
        obtain ⟨q2, q3, q4, q5⟩ := q2
        exact ⟨q2, q3, q4, by omega⟩
      · rcases List.mem_append.mp hx with hx | hx
        · exact p5 x hx
        · rw [List.mem_singleton.mp hx]
          exact py
    · obtain ⟨p1, p2, xs, p3, p4, p5⟩ := p
      rw [Int.toNat_natCast] at p2 p4
      exact q Dl xs H' (but_free b1 w1 hD) (b1.trans p1) (p2.mono (by omega)) p3 ⟨(m : Int), pr, by rw [p4], p5⟩
end
section
variable {K : PySem.W.Frag} {σ : L2.St} {H : Hp} {ta tb te : TE} {a : Addr} {d1 d2 n : Nat} {D : Ends} {tz : TS}
/-- x, y = (drawn list, drawn list), by a tuple -/
theorem qw_tupLL {i j : Nat} {PA PB : List V → Prop} (h1 : EvWL a d1 ta σ H PA) (h2 : EvWL a d2 tb σ H PB) (w : Well H a n) (hl : n + (d1 + d2) ≤ 2 ^ 50)
    (k : ∀ p q xs ys H1, H p = none → H q = none → But a H H1 → Well H1 a (n + (d1 + d2)) → H1 p = some (.lst xs) → H1 q = some (.lst ys) → PA xs → PB ys → tz D ((σ.set i (some (.ref p))).set j (some (.ref q))) H1) :
    tSeq (tAsg (tTup (tCons ta (tCons tb tNil))) (gTup K 2 (gCons (gName i) (gCons (gName j) gNil)))) tz D σ H :=
  h1 n H (But.refl a H) w (by omega) _ fun p xs H2 hp b2 w2 g2 pa => h2 (n + d1) H2 b2 w2 (by omega) _ fun q ys H3 hq b3 w3 g3 pb => ⟨sz_of (by show 2 ≤ 100000; decide), fun r hr => ⟨r, _, rfl, st_of upd_same, rfl, _, _, rfl, _, _, rfl, rfl, by
    refine k p q xs ys _ hp (but_free b2 w2 hq) ((b2.trans b3).trans (But.new hr)) ?_ (Ex.new hr _ _ (b3 _ _ (w.ne hp) g2)) (Ex.new hr _ _ g3) pa pb
    rw [← Nat.add_assoc]
    exact w3.ex (Ex.new hr)⟩⟩
/-- x, y = (drawn, drawn), by a tuple -/
theorem qw_tupVV {i j : Nat} {PA PB : V → Prop} (h1 : EvW a d1 ta σ H PA) (h2 : EvW a d2 tb σ H PB) (w : Well H a n) (hl : n + (d1 + d2) ≤ 2 ^ 50)
    (k : ∀ x y H1, But a H H1 → Well H1 a (n + (d1 + d2)) → PA x → PB y → tz D ((σ.set i (some x)).set j (some y)) H1) :
    tSeq (tAsg (tTup (tCons ta (tCons tb tNil))) (gTup K 2 (gCons (gName i) (gCons (gName j) gNil)))) tz D σ H :=
  h1 n H (But.refl a H) w (by omega) _ fun x H2 b2 w2 pa => h2 (n + d1) H2 b2 w2 (by omega) _ fun y H3 b3 w3 pb => ⟨sz_of (by show 2 ≤ 100000; decide), fun r hr => ⟨r, _, rfl, st_of upd_same, rfl, _, _, rfl, _, _, rfl, rfl, by
    refine k x y _ ((b2.trans b3).trans (But.new hr)) ?_ pa pb
    rw [← Nat.add_assoc]
    exact w3.ex (Ex.new hr)⟩⟩
theorem el_callVL {sp : Sp} {x : V} {xs ys : List V} {E : XK} (h : Ev ta σ H x) (h2 : EvL tb σ H xs) (hs : ∀ p H1, Ex H H1 → H1 p = some (.lst xs) → SpL sp [x, .ref p] H1 ys) : EvL (tCall sp [] E (tCons ta (tCons tb tNil))) σ H ys := fun H1 e Q q =>
  h H1 e _ fun H2 e2 => h2 H2 (e.trans e2) _ fun p H3 hp e3 g3 => hs p H3 ((e.trans e2).trans e3) g3 H3 (Ex.refl H3) Q (fun r H4 hr e4 h4 => q r H4 (fresh_back (e2.trans e3) hr) ((e2.trans e3).trans e4) h4) E
theorem el_callLL {sp : Sp} {xs ys zs : List V} {E : XK} (h : EvL ta σ H xs) (h2 : EvL tb σ H ys) (hs : ∀ p q H1, Ex H H1 → H1 p = some (.lst xs) → H1 q = some (.lst ys) → SpL sp [.ref p, .ref q] H1 zs) : EvL (tCall sp [] E (tCons ta (tCons tb tNil))) σ H zs := fun H1 e Q q =>
  h H1 e _ fun p H2 hp e2 g2 => h2 H2 (e.trans e2) _ fun p' H3 hp' e3 g3 => hs p p' H3 ((e.trans e2).trans e3) (e3 _ _ g2) g3 H3 (Ex.refl H3) Q (fun r H4 hr e4 h4 => q r H4 (fresh_back (e2.trans e3) hr) ((e2.trans e3).trans e4) h4) E
theorem ew_mul {P1 P2 P : Int → Prop} (h1 : EvW a d1 ta σ H (fun v => ∃ r, v = .int r ∧ P1 r)) (h2 : EvW a d2 tb σ H (fun v => ∃ r, v = .int r ∧ P2 r)) (hc : ∀ x y, P1 x → P2 y → CMul x y) (h : ∀ x y, P1 x → P2 y → P (x * y)) :
    EvW a (d1 + d2) (tOp (rI CMul fun i j => .int (i * j)) ta tb) σ H (fun v => ∃ r, v = .int r ∧ P r) :=
  ew_op h1 h2 fun x y ⟨i, ei, p⟩ ⟨j, ej, p'⟩ => ⟨.int (i * j), fun H => by
    rw [ei, ej]
    exact rv_I (hc i j p p'), i * j, rfl, h i j p p'⟩
theorem ev_intB {b : Bool} (ha : Ev ta σ H (.bl b)) : Ev (tCB (fun xs H Q => (∃ i, xs = [.int i] ∧ Q (.int i) H) ∨ ∃ k, xs = [.bl k] ∧ Q (.int (if k then 1 else 0)) H) (tCons ta tNil)) σ H (.int (if b then 1 else 0)) := fun H1 e Q q =>
  ha H1 e _ fun H2 e2 => .inr ⟨b, rfl, q H2 e2⟩
end
theorem vi_of {P : Int → Prop} : ∀ {xs : List V}, (∀ x ∈ xs, ∃ z, x = V.int z ∧ P z) → ∃ cs, xs = vi cs ∧ ∀ z ∈ cs, P z
  | [], _ => ⟨[], rfl, fun _ h => nomatch h⟩
  | x :: xs, h => by
    obtain ⟨z, rfl, pz⟩ := h x List.mem_cons_self
    obtain ⟨cs, rfl, pc⟩ := vi_of fun y hy => h y (List.mem_cons_of_mem _ hy)
    refine ⟨z :: cs, rfl, fun y hy => ?_⟩
    rcases List.mem_cons.mp hy with e | hy
    · rw [e]
      exact pz
    · exact pc y hy
end Bk
namespace Bk
open PySem PySem.Spec PyProof.Rows L2 Evl
/-! ### xs[lo::step] -/
def stepV (xs : List V) (lo st : Option Int) : List V := (sliceRange (sliceBounds lo none st xs.length).1 (sliceBounds lo none st xs.length).2.1 (sliceBounds lo none st xs.length).2.2).filterMap fun i => xs[i]?
def rSlS (K : PySem.W.Frag) : V → Option Int → Option Int → Hp → VK → Prop := fun x lo st H Q => ∃ a xs, x = .ref a ∧ SqL K H a xs ∧ st ≠ some 0 ∧ ∀ p, H p = none → Q (.ref p) (upd H p (.lst (stepV xs lo st)))
def tSlS (r : V → Option Int → Option Int → Hp → VK → Prop) (te : TE) (tl ts : TO) : TE := fun σ H Q => te σ H fun x H1 => tl σ H1 fun l H2 => ts σ H2 fun c H3 => r x l c H3 Q
theorem pe_sliceS {X : Cx} {e : Expr} {te : TE} {lo : Option Expr} {st : Expr} {tl ts : TO} {pos p2 : Pos} (he : PE X e te) (hl : PO X lo tl) (hs : PO X (some st) ts) : PE X (.Subscript e (.Slice lo none (some st) p2) pos) (tSlS (rSlS X.K) te tl ts) := by
  refine ⟨fun pins s σ H Q I h => ?_⟩
  refine Subscript_ (thn (he.run pins s σ H _ I h) fun v s1 ⟨x, H1, I1, r1, q1⟩ => ?_)
  refine wpAny_Slice (thn (hl.run pins s1 σ H1 _ I1 q1) fun vl s2 ⟨l, H2, I2, pl, q2⟩ => ?_)
  rw [evalPart_none]
  refine wpAny_pure ?_
  refine thn (hs.run pins s2 σ H2 _ I2 q2) fun vs s3 ⟨c, H3, I3, ps, q3⟩ => ?_
  obtain ⟨a, xs, rfl, hx, h0, q⟩ := q3
  cases r1
  have I4 : Inv X pins σ H3 { s3 with heap := s3.heap.push { cls := .type "slice", data := .fields #[vl, .none, vs] } } := I3.kept (t' := s3.toks) fun b ob q => Heap.get?_push_of_some _ q
  obtain ⟨its, r, ht, hz⟩ := I4.list hx
  have hlen := r.length
  show wpAny (model X.prog X.w) X.A (subscriptTail e (.Slice lo none (some st) p2) (.ref a) (.ref s3.heap.objs.size)) (EP X pins σ Q) X.xe { s3 with heap := s3.heap.push { cls := .type "slice", data := .fields #[vl, .none, vs] } }
  refine tail_any (ops := [.ref a, .ref s3.heap.objs.size]) ht.isList.typeIs slot_list_getitem.lookup ?_ (by with_unfolding_all rfl)
  refine wpAny_getItem_list_slice ht.isList (Heap.IsSliceOf.new ..) pl .none ps h0 ?_ (by rw [List.size_toArray] <;> omega)
  have hv : Vals (stepV xs l c) ((sliceRange (sliceBounds l none c its.length).1 (sliceBounds l none c its.length).2.1 (sliceBounds l none c its.length).2.2).filterMap fun i => its[i]?) := by
    unfold stepV
    rw [hlen]
    exact vals_pick r _
  have hle := slicePick_size_le its.toArray l none c
  have hp : slicePick its.toArray l none c = ((sliceRange (sliceBounds l none c its.length).1 (sliceBounds l none c its.length).2.1 (sliceBounds l none c its.length).2.2).filterMap fun i => its[i]?).toArray := by
    unfold slicePick
    simp only [List.size_toArray, List.getElem?_toArray]
  rw [hp, List.size_toArray] at hle
  rw [hp]
  refine ⟨.ref _, _, I4.laid (t' := s3.toks) (o := .lst (stepV xs l c)) (fun b ob q => Heap.get?_push_of_some _ q) (Nat.le_refl _) ?_, rfl, q _ (I4.hok.fresh (Nat.le_refl _))⟩
  exact ⟨by rw [hv.length]; rw [List.size_toArray] at hle; omega, _, 0, hv, Heap.get?_push_size _ rfl⟩
theorem filterMap_all {α β : Type} {f : α → Option β} {g : α → β} : ∀ {l : List α}, (∀ i ∈ l, f i = some (g i)) → l.filterMap f = l.map g
  | [], _ => rfl
  | a :: l, h => by
    rw [List.filterMap_cons_some (h a List.mem_cons_self), filterMap_all fun i hi => h i (List.mem_cons_of_mem _ hi), List.map_cons]
theorem step_tab {xs : List Int} {c : Nat} (h0 : 1 ≤ c) (h1 : c ≤ xs.length) : stepV (vi xs) (some ((c : Int) - 1)) (some (c : Int)) = vi ((List.range (xs.length / c)).map fun i => xs.getD ((i + 1) * c - 1) 0) := by
  have eb : sliceBounds (some ((c : Int) - 1)) none (some (c : Int)) (vi xs).length = ((c : Int) - 1, (xs.length : Int), (c : Int)) := by
    rw [List.length_map]
    unfold sliceBounds
    simp only [Option.getD_some, show ¬ ((c : Int) - 1 < 0) by omega, show ((c : Int) > 0) by omega, if_true, if_false]
    rw [show max 0 (min ((c : Int) - 1) (xs.length : Int)) = (c : Int) - 1 by omega]
  unfold stepV
  rw [eb]
  show (sliceRange ((c : Int) - 1) (xs.length : Int) (c : Int)).filterMap _ = _
  have er : sliceRange ((c : Int) - 1) (xs.length : Int) (c : Int) = (List.range (xs.length / c)).map fun i => (i + 1) * c - 1 := by
    unfold sliceRange
    simp only [if_pos (show (c : Int) > 0 by omega), if_pos (show (c : Int) - 1 < (xs.length : Int) by omega)]
    rw [show ((xs.length : Int) - ((c : Int) - 1) + (c : Int) - 1) = (xs.length : Int) by omega, ← Int.natCast_ediv, Int.toNat_natCast]
    refine List.map_congr_left fun i _ => ?_
    have : ((c : Int) - 1 + (c : Int) * (i : Int)) = (((i + 1) * c : Nat) : Int) - 1 := by
      rw [Int.natCast_mul, Int.natCast_add, Int.add_mul, Int.mul_comm (c : Int)]
      omega
    show ((c : Int) - 1 + (c : Int) * (i : Int)).toNat = _
    rw [this]
    generalize (i + 1) * c = M
    omega
  rw [er, List.filterMap_map]
  unfold vi
  rw [List.map_map]
  refine filterMap_all fun i hi => ?_
  have hi := List.mem_range.mp hi
  have hle : (i + 1) * c ≤ xs.length := Nat.le_trans (Nat.mul_le_mul_right _ hi) (Nat.div_mul_le_self _ _)
  have hpos : 0 < (i + 1) * c := Nat.mul_pos (Nat.succ_pos i) (by omega)
  have hlt : (i + 1) * c - 1 < xs.length := by omega
  show (xs.map V.int)[(i + 1) * c - 1]? = some (V.int (xs.getD ((i + 1) * c - 1) 0))
  rw [List.getElem?_map, List.getD_eq_getElem?_getD, List.getElem?_eq_getElem hlt]
  rfl
section
variable {K : PySem.W.Frag} {σ : L2.St} {H : Hp} {ta tb te : TE}
theorem el_slS {a : Addr} {xs : List V} {tl ts : TO} {lo st : Option Int} (h : Ev te σ H (.ref a)) (h1 : EvO tl σ H lo) (h2 : EvO ts σ H st) (hx : SqL K H a xs) (h0 : st ≠ some 0) : EvL (tSlS (rSlS K) te tl ts) σ H (stepV xs lo st) := fun H1 e _ q =>
  h H1 e _ fun H2 e2 => h1 H2 (e.trans e2) _ fun H3 e3 => h2 H3 ((e.trans e2).trans e3) _ fun H4 e4 =>
    ⟨a, xs, rfl, ex_l (((e.trans e2).trans e3).trans e4) hx, h0, fun p hp => q p _ (fresh_back ((e2.trans e3).trans e4) hp) (((e2.trans e3).trans e4).trans (Ex.new hp)) upd_same⟩
end
end Bk
namespace Bk
open PySem PySem.Spec PyProof.Rows L2 Evl
/-! ### tuples compared -/
theorem rv_neT {K : PySem.W.Frag} {H : Hp} {p q : Addr} {ns ms : List Int} (h : SqT K H p (vi ns)) (h' : SqT K H q (vi ms)) : RV (rNeD K) (.ref p) (.ref q) H (.bl (!decide (ns = ms))) := fun H1 e Q k =>
  ⟨_, _, dp_tup (ex_t e h), dp_tup (ex_t e h'), shaped_t ns, shaped_t ms, by rw [eqv_t]; exact k H1 (Ex.refl H1)⟩
section
variable {K : PySem.W.Frag} {σ : L2.St} {H : Hp} {ta tb te : TE}
theorem ev_neUU {ns ms : List Int} (ha : EvU ta σ H (vi ns)) (hb : EvU tb σ H (vi ms)) : Ev (tOp (rNeD K) ta tb) σ H (.bl (!decide (ns = ms))) := fun H1 e Q k =>
  ha H1 e _ fun p H2 hp e2 h2 => hb H2 (e.trans e2) _ fun q H3 hq e3 h3 => rv_neT (st_of (e3 _ _ h2)) (st_of h3) H3 (Ex.refl H3) Q fun H4 e4 => k H4 ((e2.trans e3).trans e4)
theorem ev_neUT {p : Addr} {ns ms : List Int} (ha : EvU ta σ H (vi ns)) (hb : Ev tb σ H (.ref p)) (h : SqT K H p (vi ms)) : Ev (tOp (rNeD K) ta tb) σ H (.bl (!decide (ns = ms))) := fun H1 e Q k =>
  ha H1 e _ fun p H2 hp e2 h2 => hb H2 (e.trans e2) _ fun H3 e3 => rv_neT (st_of (e3 _ _ h2)) (ex_t ((e.trans e2).trans e3) h) H3 (Ex.refl H3) Q fun H4 e4 => k H4 ((e2.trans e3).trans e4)
end
section
variable {K : PySem.W.Frag} {σ : L2.St} {H : Hp} {ta tb te : TE} {a : Addr} {d1 d2 n : Nat} {D : Ends} {tz : TS}
theorem qw_tupUU {i j : Nat} {PA PB : List V → Prop} (h1 : EvWU a d1 ta σ H PA) (h2 : EvWU a d2 tb σ H PB) (w : Well H a n) (hl : n + (d1 + d2) ≤ 2 ^ 50)
    (k : ∀ p q xs ys H1, H p = none → H q = none → But a H H1 → Well H1 a (n + (d1 + d2)) → H1 p = some (.tup xs) → H1 q = some (.tup ys) → PA xs → PB ys → tz D ((σ.set i (some (.ref p))).set j (some (.ref q))) H1) :
    tSeq (tAsg (tTup (tCons ta (tCons tb tNil))) (gTup K 2 (gCons (gName i) (gCons (gName j) gNil)))) tz D σ H :=
  h1 n H (But.refl a H) w (by omega) _ fun p xs H2 hp b2 w2 g2 pa => h2 (n + d1) H2 b2 w2 (by omega) _ fun q ys H3 hq b3 w3 g3 pb => ⟨sz_of (by show 2 ≤ 100000; decide), fun r hr => ⟨r, _, rfl, st_of upd_same, rfl, _, _, rfl, _, _, rfl, rfl, by
    refine k p q xs ys _ hp (but_free b2 w2 hq) ((b2.trans b3).trans (But.new hr)) ?_ (Ex.new hr _ _ (b3 _ _ (w.ne hp) g2)) (Ex.new hr _ _ g3) pa pb
    rw [← Nat.add_assoc]
    exact w3.ex (Ex.new hr)⟩⟩
theorem qw_parVV {i j : Nat} {PA PB : V → Prop} (h1 : EvW a d1 ta σ H PA) (h2 : EvW a d2 tb σ H PB) (w : Well H a n) (hl : n + (d1 + d2) ≤ 2 ^ 50)
    (k : ∀ x y H1, But a H H1 → Well H1 a (n + (d1 + d2)) → PA x → PB y → tz D ((σ.set i (some x)).set j (some y)) H1) :
    tSeq (tPar i j (tCons ta (tCons tb tNil))) tz D σ H :=
  h1 n H (But.refl a H) w (by omega) _ fun x H2 b2 w2 pa => h2 (n + d1) H2 b2 w2 (by omega) _ fun y H3 b3 w3 pb => ⟨_, _, rfl, k x y _ (b2.trans b3) (by
    rw [← Nat.add_assoc]
    exact w3) pa pb⟩
theorem el_callUV {sp : Sp} {xs ys : List V} {y : V} {E : XK} (h : EvU ta σ H xs) (h2 : ∀ p H1, Ex H H1 → H1 p = some (.tup xs) → Ev tb σ H1 y) (hs : ∀ p H1, Ex H H1 → H1 p = some (.tup xs) → SpL sp [.ref p, y] H1 ys) : EvL (tCall sp [] E (tCons ta (tCons tb tNil))) σ H ys := fun H1 e Q q =>
  h H1 e _ fun p H2 hp e2 g2 => h2 p H2 (e.trans e2) g2 H2 (Ex.refl H2) _ fun H3 e3 => hs p H3 ((e.trans e2).trans e3) (e3 _ _ g2) H3 (Ex.refl H3) Q (fun r H4 hr e4 h4 => q r H4 (fresh_back (e2.trans e3) hr) ((e2.trans e3).trans e4) h4) E
end
section
variable {X : Cx} {K : PySem.W.Frag} {o e : Expr} {es : List Expr} {to : TE} {t : TA} {name : Str} {apos cpos : Pos} {T id : String} {r : V → List V → Hp → VK → Prop}
theorem pe_bmK (h : X.K = K) (pa : PlainAttrs T) (slot : Slot T name id) (hty : typeOf (.builtin id) = pure (.type "method_descriptor")) (hm : MtR X id r) (ho : PE X o to) (ha : PA X (e :: es) t)
    (hbase : attributeBase o name X.env (eval o X.env) = eval o X.env := by rfl)
    (hfew : ((backTo cpos (starEach (e :: es) X.env)).all (fun x => !x.1) && (backToKw cpos (keywordEach [] X.env)).all (fun x => x.1.isSome)
      && decide ((e :: es).length + ([] : List Keyword).length + (if ([] : List Keyword).isEmpty then 0 else 1) < 30)) = true := by rfl)
    (hline : (apos.endLine == cpos.line) = true := by rfl) (hs : starEach (e :: es) X.env = (false, eval e X.env) :: starEach es X.env := by rfl) (hplain : (backTo cpos (starEach es X.env)).any (·.1) = false := by rfl) :
    PE X (.Call (.Attribute o name apos) (e :: es) [] cpos) (tBM K T r to t) := by
  subst h
  exact pe_bm pa slot hty hm ho ha hbase hfew hline hs hplain
end
end Bk
namespace Bk
open PySem PySem.Spec PyProof.Rows L2 Evl
section
variable {K : PySem.W.Frag} {σ : L2.St} {H : Hp} {tl : TE} {a : Addr} {d : Nat} {sp : Sp} {E : XK}
/-- f(drawn list), a new list -/
theorem wl_callL {PA PB : List V → Prop} (h : EvWL a d tl σ H PA) (hs : ∀ p xs H1, H1 p = some (.lst xs) → PA xs → ∃ ys, SpL sp [.ref p] H1 ys ∧ PB ys) : EvWL a d (tCall sp [] E (tCons tl tNil)) σ H PB := fun n H1 b w l Q q =>
  h n H1 b w l _ fun p xs H2 hp b2 w2 h2 pa => by
    obtain ⟨ys, hy, pb⟩ := hs p xs H2 h2 pa
    exact hy H2 (Ex.refl H2) Q (fun r H3 hr e3 h3 => q r ys H3 (but_free b2 w2 hr) (b2.trans (But.ex e3)) (w2.ex e3) h3 pb) E
theorem sw_asgL' {D : Ends} {n : Nat} {i : Nat} {P : List V → Prop} {te : TE} (h : EvWL a d te σ H P) (w : Well H a n) (l : n + d ≤ 2 ^ 50) (k : ∀ p xs H1, H p = none → But a H H1 → Well H1 a (n + d) → H1 p = some (.lst xs) → P xs → D.nx (σ.set i (some (.ref p))) H1) : tAsg te (gName i) D σ H :=
  h n H (But.refl a H) w l _ fun p xs H2 hp b2 w2 h2 pa => k p xs H2 hp b2 w2 h2 pa
end
theorem ewl_mono {σ : L2.St} {H : Hp} {te : TE} {a : Addr} {d : Nat} {P P1 : List V → Prop} (x : EvWL a d te σ H P) (h : ∀ v, P v → P1 v) : EvWL a d te σ H P1 := fun n H1 b w l Q q => x n H1 b w l Q fun p v H2 hp b2 w2 g2 k => q p v H2 hp b2 w2 g2 (h v k)
/-- xs[j] = drawn -/
theorem sw_setL {K : PySem.W.Frag} {σ : L2.St} {H : Hp} {te ta tb : TE} {a : Addr} {d n : Nat} {D : Ends} {P : V → Prop} {l : Addr} {xs : List V} {j : Nat} (hl : H l = some (.lst xs)) (nl : l ≠ a) (h : EvW a d te σ H P) (ho : ∀ H1, Ev ta σ H1 (.ref l)) (hi : ∀ H1, Ev tb σ H1 (.int (j : Int))) (hj : j < xs.length) (w : Well H a n) (hn : n + d ≤ 2 ^ 50)
    (k : ∀ v H1, But a H H1 → Well H1 a (n + d) → P v → D.nx σ (upd H1 l (.lst (xs.set j v)))) : tAsg te (gSub ta tb rSetL) D σ H :=
  h n H (But.refl a H) w hn _ fun v H1 b1 w1 pv => ho H1 H1 (Ex.refl H1) _ fun H2 e2 => hi H2 H2 (Ex.refl H2) _ fun H3 e3 =>
    ⟨l, xs, (j : Int), j, rfl, rfl, (e2.trans e3) _ _ (b1 _ _ nl hl), ixN_nat hj, k v H3 (b1.trans (But.ex (e2.trans e3))) (w1.ex (e2.trans e3)) pv⟩
section
variable {K : PySem.W.Frag} {σ : L2.St} {H : Hp} {ta tb te : TE} {x z : V}
/-- a new list of which something is known -/
def EvLX (te : TE) (σ : L2.St) (H : Hp) (P : List V → Prop) : Prop := ∀ H1, Ex H H1 → ∀ Q : VK, (∀ p xs H2, H1 p = none → Ex H1 H2 → H2 p = some (.lst xs) → P xs → Q (.ref p) H2) → te σ H1 Q
def SpLX (sp : Sp) (vs : List V) (H : Hp) (P : List V → Prop) : Prop := ∀ H1, Ex H H1 → ∀ Q : VK, (∀ p xs H2, H1 p = none → Ex H1 H2 → H2 p = some (.lst xs) → P xs → Q (.ref p) H2) → ∀ E : XK, sp vs H1 Q E
theorem elx_call {sp : Sp} {vs : List V} {E : XK} {t : TA} {P : List V → Prop} (h : EvA t σ H vs) (hs : SpLX sp (vs ++ []) H P) : EvLX (tCall sp [] E t) σ H P := fun H1 e Q q =>
  h H1 e _ fun H2 e2 => hs H2 (e.trans e2) Q (fun p xs H3 hp e3 h3 k => q p xs H3 (fresh_back e2 hp) (e2.trans e3) h3 k) E
theorem elx_callK {sp : Sp} {gV : List V → List V → List V} {vs zs : List V} {E : XK} {t tk : TA} {P : List V → Prop} (h : EvA t σ H vs) (h' : EvA tk σ H zs) (hs : SpLX sp (gV vs zs) H P) : EvLX (tCallK sp gV E t tk) σ H P := fun H1 e Q q =>
  h H1 e _ fun H2 e2 => h' H2 (e.trans e2) _ fun H3 e3 => hs H3 ((e.trans e2).trans e3) Q (fun p xs H4 hp e4 h4 k => q p xs H4 (fresh_back (e2.trans e3) hp) ((e2.trans e3).trans e4) h4 k) E
theorem ev_callVLX {sp : Sp} {E : XK} {P : List V → Prop} (h : Ev ta σ H x) (h2 : EvLX tb σ H P) (hs : ∀ p xs H1, Ex H H1 → H1 p = some (.lst xs) → P xs → SpV sp [x, .ref p] H1 z) : Ev (tCall sp [] E (tCons ta (tCons tb tNil))) σ H z := fun H1 e Q q =>
  h H1 e _ fun H2 e2 => h2 H2 (e.trans e2) _ fun p xs H3 hp e3 g3 k => hs p xs H3 ((e.trans e2).trans e3) g3 k H3 (Ex.refl H3) Q (fun H4 e4 => q H4 ((e2.trans e3).trans e4)) E
theorem q_asgLX {D : Ends} {tz : TS} {i : Nat} {P : List V → Prop} (h : EvLX te σ H P) (k : ∀ p xs H1, H p = none → Ex H H1 → H1 p = some (.lst xs) → P xs → tz D (σ.set i (some (.ref p))) H1) : tSeq (tAsg te (gName i)) tz D σ H :=
  h H (Ex.refl H) _ fun p xs H1 hp e1 h1 pk => k p xs H1 hp e1 h1 pk
end
end Bk
namespace Bk
open PySem PySem.Spec PyProof.Rows L2 Evl
/-! ### math.gcd, math.lcm -/
def rLcm : List V → Hp → VK → Prop := fun vs H Q => ∃ a b : Int, vs = [.int a, .int b] ∧ a.natAbs < 2 ^ 64 ∧ b.natAbs < 2 ^ 64 ∧ Q (.int ((Nat.lcm a.natAbs b.natAbs : Nat) : Int)) H
theorem cr_lcm {X : Cx} : CallR X (.builtin "math.lcm") rLcm := by
  intro pins s σ H vs us Q I r h
  obtain ⟨a, b, rfl, ha, hb, q⟩ := h
  obtain ⟨t, u, rfl⟩ := Vals.int2 r
  have e : ((Nat.lcm 1 a.natAbs).lcm b.natAbs) = Nat.lcm a.natAbs b.natAbs := by rw [Nat.lcm_one_left]
  refine PySem.W.mg_lcm_v (c := ((Nat.lcm a.natAbs b.natAbs : Nat) : Int)) ha hb (by rw [e]) ?_ ⟨.int _, H, I.tok _, ⟨_, rfl⟩, q⟩
  rw [Int.natAbs_natCast]
  have h1 : Nat.lcm a.natAbs b.natAbs ≤ a.natAbs * b.natAbs := by
    by_cases h0 : a.natAbs * b.natAbs = 0
    · rcases Nat.mul_eq_zero.mp h0 with z | z
      · rw [z, Nat.lcm_zero_left]; exact Nat.zero_le _
      · rw [z, Nat.lcm_zero_right]; exact Nat.zero_le _
    · exact Nat.le_of_dvd (Nat.pos_of_ne_zero h0) (Nat.lcm_dvd_mul _ _)
  have h2 : a.natAbs * b.natAbs < 2 ^ 64 * 2 ^ 64 := Nat.mul_lt_mul'' ha hb
  exact Nat.lt_of_lt_of_le (PySem.Flt.log2_lt_of (k := 128) (by decide) (by omega)) (by decide)
section
variable {K : PySem.W.Frag} {σ : L2.St} {H : Hp} {ta tb te : TE} {a b : Int}
theorem ev_gcd (ha : Ev ta σ H (.int a)) (hb : Ev tb σ H (.int b)) : Ev (tCB rGcd (tCons ta (tCons tb tNil))) σ H (.int ((Nat.gcd a.natAbs b.natAbs : Nat) : Int)) := fun H1 e Q q =>
  ha H1 e _ fun H2 e2 => hb H2 (e.trans e2) _ fun H3 e3 => ⟨a, b, rfl, q H3 (e2.trans e3)⟩
theorem ev_lcm (ha : Ev ta σ H (.int a)) (hb : Ev tb σ H (.int b)) (h1 : a.natAbs < 2 ^ 64) (h2 : b.natAbs < 2 ^ 64) : Ev (tCB rLcm (tCons ta (tCons tb tNil))) σ H (.int ((Nat.lcm a.natAbs b.natAbs : Nat) : Int)) := fun H1 e Q q =>
  ha H1 e _ fun H2 e2 => hb H2 (e.trans e2) _ fun H3 e3 => ⟨a, b, rfl, h1, h2, q H3 (e2.trans e3)⟩
end
/-! ### None or a pair of a number and a text -/
def BarV (b : Option (Nat × Str)) (v : V) (H : Hp) : Prop := match b with
  | none => v = .non
  | some (n, s) => ∃ p, v = .ref p ∧ H p = some (.tup [.int (n : Int), .str s])
theorem BarV.ex {b : Option (Nat × Str)} {v : V} {H H' : Hp} (h : BarV b v H) (e : Ex H H') : BarV b v H' := by
  cases b with
  | none => exact h
  | some x =>
    obtain ⟨p, e1, e2⟩ := h
    exact ⟨p, e1, e _ _ e2⟩
theorem BarV.isN {b : Option (Nat × Str)} {v : V} {H : Hp} (h : BarV b v H) : decide (v = .non) = b.isNone := by
  cases b with
  | none =>
    have h' : v = .non := h
    rw [h']
    rfl
  | some x =>
    obtain ⟨p, e1, e2⟩ := h
    rw [e1]
    rfl
def RetB (b : Option (Nat × Str)) (H : Hp) (Q : VK) : Prop := ∀ v H2, Ex H H2 → BarV b v H2 → Q v H2
def SpB (sp : Sp) (vs : List V) (H : Hp) (b : Option (Nat × Str)) : Prop := ∀ H1, Ex H H1 → ∀ Q : VK, RetB b H1 Q → ∀ E : XK, sp vs H1 Q E
def EvB (te : TE) (σ : L2.St) (H : Hp) (b : Option (Nat × Str)) : Prop := ∀ H1, Ex H H1 → ∀ Q : VK, RetB b H1 Q → te σ H1 Q
section
variable {K : PySem.W.Frag} {σ : L2.St} {H : Hp} {ta tb te : TE} {t : TA} {sp : Sp} {E : XK} {vs xs : List V} {b : Option (Nat × Str)} {D : Ends} {tz : TS} {i : Nat}
theorem eb_call (h : EvA t σ H vs) (hs : SpB sp (vs ++ []) H b) : EvB (tCall sp [] E t) σ H b := fun H1 e Q q =>
  h H1 e _ fun H2 e2 => hs H2 (e.trans e2) Q (fun v H3 e3 h3 => q v H3 (e2.trans e3) h3) E
theorem eb_callK {gV : List V → List V → List V} {zs : List V} {tk : TA} (h : EvA t σ H vs) (h' : EvA tk σ H zs) (hs : SpB sp (gV vs zs) H b) : EvB (tCallK sp gV E t tk) σ H b := fun H1 e Q q =>
  h H1 e _ fun H2 e2 => h' H2 (e.trans e2) _ fun H3 e3 => hs H3 ((e.trans e2).trans e3) Q (fun v H4 e4 h4 => q v H4 ((e2.trans e3).trans e4) h4) E
theorem eb_callL (h : EvL te σ H xs) (hs : ∀ p H1, Ex H H1 → H1 p = some (.lst xs) → SpB sp [.ref p] H1 b) : EvB (tCall sp [] E (tCons te tNil)) σ H b := fun H1 e Q q =>
  h H1 e _ fun p H2 hp e2 h2 => hs p H2 (e.trans e2) h2 H2 (Ex.refl H2) Q (fun v H3 e3 h3 => q v H3 (e2.trans e3) h3) E
theorem ev_bN (h : EvB te σ H b) : Ev (tOp (fun x y H Q => y = V.non ∧ Q (V.bl (decide (x = V.non))) H) te (tC .non)) σ H (.bl b.isNone) := fun H1 e Q q =>
  h H1 e _ fun v H2 e2 h2 => ⟨rfl, by
    rw [h2.isN]
    exact q H2 e2⟩
theorem ev_bS (h : EvB te σ H b) : Ev (tOp (fun x y H Q => y = V.non ∧ Q (V.bl (!decide (x = V.non))) H) te (tC .non)) σ H (.bl b.isSome) := fun H1 e Q q =>
  h H1 e _ fun v H2 e2 h2 => ⟨rfl, by
    rw [h2.isN]
    cases b
    · exact q H2 e2
    · exact q H2 e2⟩
theorem q_asgB (h : EvB te σ H b) (k : ∀ v H1, Ex H H1 → BarV b v H1 → tz D (σ.set i (some v)) H1) : tSeq (tAsg te (gName i)) tz D σ H :=
  h H (Ex.refl H) _ fun v H1 e1 h1 => k v H1 e1 h1
theorem s_retB (h : EvB te σ H b) (k : ∀ v H1, Ex H H1 → BarV b v H1 → D.rt v H1) : tRet te D σ H := h H (Ex.refl H) _ k
theorem s_retBn {n : Nat} {s : Str} {k : Int} (h : Ev ta σ H (.int k)) (hk : k = (n : Int)) (h' : ∀ H1, Ex H H1 → Ev tb σ H1 (.str s)) (q : ∀ v H1, Ex H H1 → BarV (some (n, s)) v H1 → D.rt v H1) : tRet (tTup (tCons ta (tCons tb tNil))) D σ H :=
  h H (Ex.refl H) _ fun H1 e1 => h' H1 e1 H1 (Ex.refl H1) _ fun H2 e2 => ⟨sz_of (by show 2 ≤ 100000; decide), fun p hp => q (.ref p) _ ((e1.trans e2).trans (Ex.new hp)) ⟨p, rfl, by
    rw [upd_same, hk]⟩⟩
end
/-! ### a value of which something is known -/
def EvX (te : TE) (σ : L2.St) (H : Hp) (P : V → Prop) : Prop := ∀ H1, Ex H H1 → ∀ Q : VK, (∀ v H2, Ex H1 H2 → P v → Q v H2) → te σ H1 Q
def SpX (sp : Sp) (vs : List V) (H : Hp) (P : V → Prop) : Prop := ∀ H1, Ex H H1 → ∀ Q : VK, (∀ v H2, Ex H1 H2 → P v → Q v H2) → ∀ E : XK, sp vs H1 Q E
section
variable {K : PySem.W.Frag} {σ : L2.St} {H : Hp} {ta tb te tl : TE} {t : TA} {tt : TT} {sp : Sp} {E : XK} {vs xs : List V} {D : Ends} {tz tu tw : TS} {i : Nat} {P : V → Prop}
theorem evx_call (h : EvA t σ H vs) (hs : SpX sp (vs ++ []) H P) : EvX (tCall sp [] E t) σ H P := fun H1 e Q q =>
  h H1 e _ fun H2 e2 => hs H2 (e.trans e2) Q (fun v H3 e3 h3 => q v H3 (e2.trans e3) h3) E
theorem q_asgX (h : EvX te σ H P) (k : ∀ v H1, Ex H H1 → P v → tz D (σ.set i (some v)) H1) : tSeq (tAsg te (gName i)) tz D σ H :=
  h H (Ex.refl H) _ fun v H1 e1 h1 => k v H1 e1 h1
/-- a comprehension over a new tuple -/
theorem el_lcNT {j : Nat} {ws : List Nat} (f : Nat → Bool) (v : Nat → V) (h : EvU tl σ H xs) (hz : xs.length ≤ 40000) (hw : ∀ x, wipe ((wipe σ ws).set j (some x)) ws = wipe σ ws)
    (ht : ∀ (i : Nat) (x : V) H1, Ex H H1 → xs[i]? = some x → EvT tt ((wipe σ ws).set j (some x)) H1 (f i)) (he : ∀ (i : Nat) (x : V) H1, Ex H H1 → xs[i]? = some x → f i = true → Ev te ((wipe σ ws).set j (some x)) H1 (v i)) :
    EvL (tLc (iTup K tl) (gName j) tt te ws) σ H (given xs.length f v) := fun H0 e Q q => h H0 e _ fun a H1 ha e1 h1 => ⟨a, rfl, ⟨xs, st_of h1⟩, fun Dl hD =>
  lc_tup (xs := xs) (Cw H1 f v Dl) ⟨hD, Ex.new hD, upd_same⟩ (fun i H' _ p => st_of (p.2.1 _ _ h1)) (fun i x H' hi p => ⟨hw x, cw_turn p (by have := (List.getElem?_eq_some_iff.mp hi).1; omega) (ht i x H1 (e.trans e1) hi) (fun hf => he i x H1 (e.trans e1) hi hf)⟩)
    (fun H' p => q Dl H' (fresh_back e1 p.1) (e1.trans p.2.1) p.2.2)⟩
variable {a : Addr} {d n : Nat}
theorem sw_ifB (h : EvW a d te σ H (fun v => ∃ b, v = .bl b)) (w : Well H a n) (l : n + d ≤ 2 ^ 50) (k1 : ∀ H1, But a H H1 → Well H1 a (n + d) → tu D σ H1)
    (k2 : ∀ H1, But a H H1 → Well H1 a (n + d) → tw D σ H1) : tIfS (tTest te) tu tw D σ H :=
  h n H (But.refl a H) w l _ fun v H2 b2 w2 ⟨b, e⟩ => ⟨b, e, by
    cases b with
    | true => exact iteT (k1 H2 b2 w2)
    | false => exact iteF (k2 H2 b2 w2)⟩
end
end Bk
namespace Bk
open PySem PySem.Spec PyProof.Rows L2 Evl
/-! ### an own error class whose __init__ says super().__init__('..') and keeps one field -/
/-- the def of a class, by its place in the class -/
def clsDef (st : Stmt) (i : Nat) : Stmt := match st with
  | .ClassDef _ _ _ b _ _ _ _ _ _ _ => b.getD i (.Pass ⟨0, 0, 0, 0⟩)
  | s => s
/-- the names of such an __init__ -/
structure SupS (f : Str) (sc : Scope) : Prop where
  kind : sc.kind = .function
  co : sc.isCoroutine = false
  gen : sc.isGenerator = false
  nocell : ∀ x ∈ sc.names, x.2 ≠ .cell
  free : ∀ x ∈ sc.names, x.2 = .free → x.1 = "__class__"
  self : sc.names.lookup ("self" : Str) = some .local
  field : sc.names.lookup f = some .local
  sup : sc.names.lookup ("super" : Str) = some .globalImplicit
  cls : sc.names.lookup ("__class__" : Str) = some .free
  fs : f ≠ "self"
  fd : (f == ("__debug__" : Str)) = false
  fc : (f == ("__classdict__" : Str)) = false
structure SupC (P : Program) (K : PySem.W.Frag) (mg : Str → Option Value) (C fI : Addr) (fd : FuncData) (f : Str) (st : Stmt) : Prop where
  ox : OexC K C
  iC : PySem.W.findIn K (.ref C) "__init__" = some (some (.ref fI))
  tI : PySem.W.typeIn K (.ref fI) = some (.type "function")
  nf : PySem.W.findIn K (.ref C) f = some none
  up : PySem.W.ks_superIn K C C "__init__" = some (some (.builtin "ValueError.__init__"))
  sB : PySem.W.subIn K (.ref C) (.type "ValueError") = some true
  sC : PySem.W.mroIn K C (.ref C) = some true
  no : PySem.W.nsIn K cStatics "thirdparty.any" = some none
  gS : mg "super" = none
  fn : ∃ qual oc od kV doc pm an cda ct cc osl cl cld csl ccl cdd ccs vs file tf, fd = PySem.W.fnX "__init__" qual (defArgs st) (defBody st) (defScope st) [("__class__", cc)] .none kV doc pm an (.ref cda) ct ∧
    K.lookup fI = some ⟨oc, od, .func fd, osl⟩ ∧ PySem.W.codeIn K (.ref cda) qual = true ∧
    K.lookup cc = some ⟨cl, cld, .cell (some (.ref C)), csl⟩ ∧ K.lookup cda = some ⟨ccl, cdd, .fields vs, ccs⟩ ∧ vs[2]? = some (.str file tf) ∧ ((P.main.file : Str) == file) = true
  top : (P.main.scope.names.lookup ("super" : Str)).isSome = false
  arg : ∃ ar, ((defArgs st).posonlyargs ++ (defArgs st).args).head? = some ar ∧ ar.arg = "self"
  body : ∃ p0 p1 p2 p3 p4 p5 p6 p7 p8 p9 m j, defBody st = [.Expr (.Call (.Attribute (.Call (.Name "super" p0) [] [] p1) "__init__" p2) [.Constant (.str m) j p3] [] p4) p5, .Assign [.Attribute (.Name "self" p6) f p7] (.Name f p8) p9] ∧
    (∀ env, ∃ pl : Sem Bool, eval (.Call (.Attribute (.Call (.Name "super" p0) [] [] p1) "__init__" p2) [.Constant (.str m) j p3] [] p4) env = (do
      let ov ← attributeBase (.Call (.Name "super" p0) [] [] p1) "__init__" env (eval (.Call (.Name "super" p0) [] [] p1) env)
      standAt p2.atName
      let (g, first) ← holding [ov] (getMethod ov "__init__" pl)
      callWith p4 g first (backTo p4 (starEach [.Constant (.str m) j p3] env)) [])) ∧
    ∀ env, swapsWith (.Name f p8) (some (.Attribute (.Name "self" p6) f p7)) p9.line env = pure false
  sc : SupS f (defScope st)

/-- the promise: the error gets its dict -/
def sp_sup (C : Addr) (f : Str) : Sp := fun vs H Q _ => ∃ (a : Addr) (v : V), vs = [.ref a, v] ∧ H a = some (exo a C none) ∧ ∀ dx, H dx = none → dx ≠ a → Q .non (upd (upd H dx (exd dx [(f, v)])) a (exo a C (some dx)))

section
variable {P : Program} {w : World} {K : PySem.W.Frag} {mg : Str → Option Value} {base : Heap} {C fI : Addr} {fd : FuncData} {f : Str} {st : Stmt}
/-- the frame of that def -/
def cxSup (P : Program) (w : World) (K : PySem.W.Frag) (mg : Str → Option Value) (base : Heap) (f : Str) (fd : FuncData) (fI : Addr) (A : Around) (out : List Env) (s : Shared) (H : Hp) (xe : Value → Shared → Prop) : Cx where
  prog := P
  w := w
  K := K
  mg := mg
  base := base
  A := A.deeper (callEnv fd s.heap.objs.size fI)
  N := ["self", f]
  s_0 := s
  H_0 := H
  env := callEnv fd s.heap.objs.size fI
  outer := out
  stack := callEnv fd s.heap.objs.size fI :: out
  ex := []
  fn := fun x => decide (x ≠ "__class__")
  calm := true
  pn := []
  xe := xe
theorem look1 {cc c : Addr} {x : Str} (h : ([(("__class__" : Str), cc)] : List (Str × Addr)).lookup x = some c) : x = "__class__" ∧ c = cc := by
  by_cases e : x = ("__class__" : Str)
  · subst e
    have z : some cc = some c := h
    exact ⟨rfl, (Option.some.inj z).symm⟩
  · have e' : (x == ("__class__" : Str)) = false := by simpa using e
    simp [List.lookup, e'] at h
theorem lkA {x f : Str} {u0 u1 : Value} (h : f ≠ x) : List.lookup x [(f, u1), (x, u0)] = some u0 := by
  have e : (x == f) = false := by simpa using Ne.symm h
  simp [List.lookup, e]
theorem lkB {x f : Str} {u0 u1 : Value} : List.lookup f [(f, u1), (x, u0)] = some u1 := by simp [List.lookup]
theorem two_of {vs : List V} {us : List Value} (r : Vals vs us) (hl : us.length = 2) : ∃ u0 u1 v0 v1, us = [u0, u1] ∧ vs = [v0, v1] ∧ RelV v0 u0 ∧ RelV v1 u1 := by
  cases r with
  | nil => cases hl
  | cons r0 r' =>
    cases r' with
    | nil => cases hl
    | cons r1 r'' =>
      cases r'' with
      | nil => exact ⟨_, _, _, _, rfl, rfl, r0, r1⟩
      | cons _ _ => simp at hl
theorem inv_sup {A : Around} {out : List Env} {s : Shared} {H : Hp} {xe : Value → Shared → Prop} {h₀ : Heap} {t : Nat} (S : SupC P K mg C fI fd f st)
    (hd : A.handled = none) (e0 : Env0 P w K mg base A out s H) {u0 u1 : Value} {v0 v1 : V} (r0 : RelV v0 u0) (r1 : RelV v1 u1) (hn : h₀.Ns s.heap.objs.size (fun x => List.lookup x [(f, u1), (("self" : Str), u0)])) (k : ∀ b o, s.heap.get? b = some o → h₀.get? b = some o) :
    Inv (cxSup P w K mg base f fd fI A out s H xe) [] [some v0, some v1] H { s with heap := h₀, toks := t } := by
  obtain ⟨qual, oc, od, kV, doc, pm, an, cda, ct, cc, osl, cl, cld, csl, ccl, cdd, ccs, us', file, tf, rfl, h2, h3, h4, _⟩ := S.fn
  have SC := S.sc
  have hK : K.In s.heap := e0.mod.kin.keeps fun b o e => (e0.bs b o e).1
  have hcc := e0.mod.kin _ _ h4
  have noA : ∀ b : Addr, b ∉ (cxSup P w K mg base f (PySem.W.fnX "__init__" qual (defArgs st) (defBody st) (defScope st) [("__class__", cc)] .none kV doc pm an (.ref cda) ct) fI A out s H xe).ex := fun b z => absurd (show b ∈ ([] : List Addr) from z) (by simp)
  refine ⟨⟨e0.mod, SC.kind, rfl, rfl, Nat.le_refl _, fun y z c h1 h2 => ?_, fun y hy => ?_, fun y c hy h => ?_, fun _ => hd, Around.frames_deeper e0.frames, .inr ⟨rfl, rfl⟩, fun b z => absurd z (noA b), e0.bs, e0.bsz, fun b _ _ => noA b, fun b z => absurd z (noA b), e0.funs, e0.frf⟩,
    rfl, e0.bare, Un.kept k, ⟨_, hn, fun i y v h1 h2 h3 => ?_⟩, fun y c h => ?_, e0.hok.fresh (Nat.le_refl _), fun y c h => ?_, fun p hp => absurd (show p ∈ ([] : List (Addr × Obj)) from hp) (by simp), e0.hok.kept k, ?_⟩
  · rw [(look1 h1).1, (look1 h2).1]
  · have hy : (defScope st).names.lookup y = some .cell ∨ (defScope st).names.lookup y = some .free := hy
    rcases hy with hy | hy
    · exact absurd rfl (SC.nocell _ (PySem.mem_of_lookup hy))
    · have e : y = ("__class__" : Str) := SC.free _ (PySem.mem_of_lookup hy) rfl
      rw [e]
      exact ⟨cc, rfl⟩
  · have e := (look1 h).1
    exact absurd e (of_decide_eq_true hy)
  · match i, h1, h2 with
    | 0, h1, h2 =>
      have ey := Option.some.inj h1
      have ev := Option.some.inj (Option.some.inj h2)
      subst ey ev
      exact ⟨u0, r0, .inl ⟨SC.self, lkA SC.fs⟩⟩
    | 1, h1, h2 =>
      have ey := Option.some.inj h1
      have ev := Option.some.inj (Option.some.inj h2)
      subst ey ev
      exact ⟨u1, r1, .inl ⟨SC.field, lkB⟩⟩
    | i + 2, h1, h2 => cases h1
  · obtain ⟨e1, e2⟩ := look1 h
    subst e1 e2
    exact ⟨_, _, k _ _ (e0.bs _ _ hcc).1, rfl⟩
  · obtain ⟨e1, e2⟩ := look1 h
    subst e1 e2
    exact (e0.bs _ _ hcc).2
  · rfl
/-- ValueError.__init__ held by a method-wrapper, called: the error stays one -/
theorem wrap_call {X : Cx} {pins : List (Addr × Obj)} {σ : L2.St} {H : Hp} {s : Shared} {u a : Addr} {v : Value} {Q : Value → Shared → Prop} {E : Value → Shared → Prop} (T : OexC X.K C) (I : Inv X pins σ H s) (hu : s.heap.get? u = some (PySem.W.kxs_mw "ValueError.__init__" a)) (e : H a = some (exo a C none))
    (k : ∀ s', Inv X pins σ H s' → Q .none s') : wpAny (model X.prog X.w) X.A (call (.ref u) [v]) Q E s := by
  obtain ⟨nm, q, N, bs, bm, sn, sub, ab, col, dd, k0, k1, k2, k3, k5, hC, hbm⟩ := T.cls
  obtain ⟨t1, ho⟩ := exo_at I.hok e
  have hCs := I.kIn _ _ hC
  obtain ⟨hh, g, d, tk, os⟩ := s
  have nmeth : (Value.type "method-wrapper" == Value.type "method" || Value.type "method-wrapper" == Value.type "builtin_function_or_method" || Value.type "method-wrapper" == Value.type "method-wrapper") = true := by decide
  refine wpAny_call (codeAny_of_tree ?_)
  show wpAny _ X.A.in1 (callAny (.ref u) ⟨[v], []⟩) _ _ _
  simp only [callAny]
  refine wpAny_bind (wpAny_load hu ?_)
  simp only [PySem.W.kxs_mw, nmeth, if_true]
  refine PySem.W.KFB.if_so (by decide) ?_
  refine wpAny_bind (PySem.W.check_bound_init F.excBase_ValueError.toExcCallFacts hCs ho rfl ?_)
  refine wpAny_bind (wpAny_pure (wpAny_pure ⟨plainId_quiet F.excBase_ValueError.init.plain _, codeAny_builtin F.excBase_ValueError.initEntry ?_⟩))
  have go : ∀ h', (∀ b o, b ≠ a → hh.get? b = some o → h'.get? b = some o) → h'.get? a = some (PySem.W.excObj C hh.objs.size none .none) → Q .none ⟨h', g, d, tk, os⟩ := fun h' kk hx => by
    have J := I.write (t' := tk) (x := a) (e := a) (o := exo a C none) (by rw [e]; exact True.intro) (.inl rfl) kk ⟨_, hx⟩ (exo_ok hx)
    have eu : upd H a (exo a C none) = H := by
      funext b
      by_cases hb : b = a
      · rw [hb, upd_same, e]
      · rw [upd_ne hb]
    rw [eu] at J
    exact k _ J
  exact PySem.W.exc_init_tree (cls := .ref C) (t0 := t1) (dv := none) (c2 := .none) (c3 := .none) (b4 := .bool false) ho (by show 1 ≤ sizeLine; rw [sizeLine_eq]; omega) fun h' kk hx _ => go h' kk hx

theorem sup_ok (S : SupC P K mg C fI fd f st) : FnOk P w K mg base CX0 1 fI fd ["self", f] (sp_sup C f) := by
  refine ⟨fun vs H Q E ⟨a, v, e, _⟩ => by rw [e]; rfl, ?_⟩
  intro A out s H args us vs Q E hr e0 hb rv hsp
  obtain ⟨a, v, rfl, ea, q⟩ := hsp
  obtain ⟨u0, u1, v0, v1, rfl, ev, r0, r1⟩ := two_of rv (by rw [← rv.length]; rfl)
  obtain rfl : v0 = V.ref a := (List.cons.inj ev).1.symm
  obtain rfl : v1 = v := ((List.cons.inj (List.cons.inj ev).2).1).symm
  obtain rfl : u0 = Value.ref a := r0
  have SC := S.sc
  have hK : K.In s.heap := e0.mod.kin.keeps fun b o e => (e0.bs b o e).1
  have noL : s.heap.NoLimit := e0.mod.nolimit.keeps fun b o e => (e0.bs b o e).1
  obtain ⟨qual, oc, od, kV, doc, pm, an, cda, ct, cc, osl, cl, cld, csl, ccl, cdd, ccs, ws, file, tf, efd, h2, h3, h4, h5, h6, h7⟩ := S.fn
  have hkk : fd.scope.kind = .function := by rw [efd]; exact SC.kind
  have bz : ((["self", f] : List Str).zip [Value.ref a, u1]) = [(("self" : Str), Value.ref a), (f, u1)] := rfl
  rw [bz] at hb
  refine ks_codeAny_call_defAt (fd := fd) (body := defBody st) (binds := [(("self" : Str), Value.ref a), (f, u1)]) hr.depth (hK _ _ h2) rfl noL (by rw [efd]; exact PySem.W.codeRec_of hK h3) (by rw [efd]) hb (by rw [efd]; exact SC.nocell) ?_ (fun h₀ hn k => ?_) (by rw [efd]; exact SC.co) (by rw [efd]; exact SC.gen) hkk
  · intro y hy
    rw [efd]
    rcases List.mem_cons.mp hy with e | hy
    · rw [e]
      exact SC.self
    · rw [List.mem_singleton.mp hy]
      exact SC.field
  have I := inv_sup (base := base) (w := w) (f := f) (fd := fd) (A := A) (out := out) (h₀ := h₀) (t := s.toks + 2) (xe := fun e s' => wpAny (model P w) (A.deeper (callEnv fd s.heap.objs.size fI)) (leaving (callEnv fd s.heap.objs.size fI) e) (fun _ s'' => CR CX0 out P w H s Q E (.error e) s'') (fun e' s'' => CR CX0 out P w H s Q E (.error e') s'') s') S hr.hd e0 (u0 := Value.ref a) (v0 := V.ref a) rfl r1 hn k
  generalize hX : cxSup P w K mg base f fd fI A out s H _ = X at I
  have xP : X.prog = P := by rw [← hX]; rfl
  have xw : X.w = w := by rw [← hX]; rfl
  have xK : X.K = K := by rw [← hX]; rfl
  have xm : X.mg = mg := by rw [← hX]; rfl
  have xA : X.A = A.deeper (callEnv fd s.heap.objs.size fI) := by rw [← hX]; rfl
  have xe : X.env = callEnv fd s.heap.objs.size fI := by rw [← hX]; rfl
  have xN : X.N = [("self" : Str), f] := by rw [← hX]; rfl
  have sc : X.env.scope = defScope st := by rw [xe, efd]; rfl
  have cl : X.env.cells = [(("__class__" : Str), cc)] := by rw [xe, efd]; rfl
  have fin : ∀ (fl : Flow) (s' : Shared), SP X [] { nx := fun _ H' => Q .non H', rt := Q } fl s' → CR CX0 out P w H s Q E (.ok (.ret (match fl with | .ret v => v | _ => .none))) s' := fun fl s' hs => by
    have un : ∀ {σ' : L2.St} {H' : Hp}, Inv X [] σ' H' s' → s'.os = s.os ∧ AllBare s'.gens ∧ Un (frs out) [] H H' s.heap s'.heap ∧ HOk P w H' s'.heap := fun J => by
      subst hX
      exact ⟨J.os, J.bare, J.base, J.hok⟩
    cases fl with
    | next =>
      obtain ⟨σ', H', J, q'⟩ := hs
      obtain ⟨a1, a2, a3, a4⟩ := un J
      exact ⟨.non, H', a1, a2, a3, a4, rfl, q'⟩
    | ret u =>
      obtain ⟨v', σ', H', J, rr, q'⟩ := hs
      obtain ⟨a1, a2, a3, a4⟩ := un J
      exact ⟨v', H', a1, a2, a3, a4, rr, q'⟩
    | brk =>
      obtain ⟨_, _, _, q'⟩ := hs
      exact q'.elim
    | cont =>
      obtain ⟨_, _, _, q'⟩ := hs
      exact q'.elim
  have xx : X.xe = fun e s' => wpAny (model P w) (A.deeper (callEnv fd s.heap.objs.size fI)) (leaving (callEnv fd s.heap.objs.size fI) e) (fun _ s'' => CR CX0 out P w H s Q E (.error e) s'') (fun e' s'' => CR CX0 out P w H s Q E (.error e') s'') s' := by rw [← hX]; rfl
  refine ks_wpAt_mono (Q := SP X [] { nx := fun _ H' => Q .non H', rt := Q }) (E := X.xe) ?_ (fun fl s' hs => fin fl s' hs) (fun e s' hs => by rw [xx] at hs; exact hs)
  rw [← xA, ← xe, ← xP, ← xw]
  clear fin xx
  have hcc := e0.mod.kin _ _ h4
  obtain ⟨p0, p1, p2, p3, p4, p5, p6, p7, p8, p9, m, j, eb, ehe, esw⟩ := S.body
  obtain ⟨pl, he⟩ := ehe X.env
  have hsw := esw X.env
  obtain ⟨ar, har, ear⟩ := S.arg
  rw [eb]
  have hKX := I.kIn
  rw [xK] at hKX
  have hks : X.env.kindOf "super" = some .globalImplicit := by
    show X.env.scope.names.lookup _ = _
    rw [sc]
    exact SC.sup
  have hkc : X.env.kindOf "__class__" = some .free := by
    show X.env.scope.names.lookup _ = _
    rw [sc]
    exact SC.cls
  have hkse : X.env.kindOf "self" = some .local := by
    show X.env.scope.names.lookup _ = _
    rw [sc]
    exact SC.self
  have hlv : X.env.scope.kind = .function := I.ok.kind
  obtain ⟨mL, hnL, hlook⟩ := I.loc
  have hself : mL "self" = some (Value.ref a) := by
    obtain ⟨u, ru, q'⟩ := hlook 0 "self" (.ref a) (by rw [xN]; rfl) rfl (.inl hkse)
    obtain rfl : u = Value.ref a := ru
    rcases q' with ⟨_, e⟩ | ⟨hk', _⟩
    · exact e
    · rcases hk' with hk' | hk' <;> (rw [hkse] at hk'; cases hk')
  obtain ⟨t1, ho⟩ := exo_at I.hok ea
  obtain ⟨nm, qc, Nc, bs, bm, sn, sub, ab, col, dd, k0, k1, k2, k3, k5, hC, hbm⟩ := S.ox.cls
  have hCs := hKX _ _ hC
  have hfi := hKX _ _ h2
  have efn : X.env.func = some fI := by rw [xe, efd]; rfl
  have eco : X.env.code = .ref cda := by rw [xe, efd]; rfl
  refine ks_wpAt_execs_cons (ks_wpAt_Expr_any (ks_wpAt_MethodCall (pl := pl) ?_ he) I.quiet)
  refine ks_wpAt_super_base (of := ⟨oc, od, .func fd, osl⟩) (fd := fd) (ar := ar) hks hkc rfl efn hfi rfl (by rw [efd]; exact har) eco (hKX _ _ h5) rfl h6 (by rw [xP]; exact h7) (by rw [xP]; exact S.top) ?_
  refine PySem.W.ks_loadName_global hlv hks (Calls.loadGlobal_builtin (by rw [I.ok.glob]; exact I.mod.glob.keeps I.bk) (by rw [xm]; exact S.gS) (by rw [I.ok.blt]; exact I.mod.blt.choose_spec.1.keeps I.bk) ((I.mod.blt.choose_spec.2 _ (by decide)).trans (by decide +kernel)) ⟨rfl, ?_⟩)
  have hcl : X.env.cells.lookup ("__class__" : Str) = some cc := by rw [cl]; rfl
  refine wpAny_loadName_free hlv hkc hcl ⟨_, hKX _ _ h4, rfl⟩ ?_
  rw [ear]
  refine wpAny_loadName_local hlv hkse hnL hself ?_
  refine ks_wpAny_isType_cls hCs rfl ⟨rfl, ?_⟩
  refine ks_wpAny_call_super hCs rfl ho rfl (fun c z => by cases z) (PySem.W.looks_mroIn hKX S.sC) (fun h' e' k' => ?_)
  have hcd : PySem.W.clsIn K C = some { name := nm, bases := bs, mro := .ref C :: bm, ns := Nc, qualname := qc, hasDict := true, slotNames := sn, subclasses := sub, abstract := ab, collection := col, hasDel := false } := by
    unfold PySem.W.clsIn
    rw [hC] <;> rfl
  have hup := S.up
  unfold PySem.W.ks_superIn at hup
  rw [hcd] at hup
  have I1 : Inv X [] [some (.ref a), some v1] H { heap := h', gens := s.gens, drawn := s.drawn, toks := s.toks + 2, os := s.os } := I.kept (t' := s.toks + 2) k'
  have hK1 := I1.kIn
  rw [xK] at hK1
  have hI : PySem.W.Looks (model X.prog X.w) h' (isInstance (.ref a) (.type "ValueError")) true := (PySem.W.InstAt.type (od := none) ⟨k' _ _ ho, rfl, rfl, trivial⟩).andThen (PySem.W.looks_subIn hK1 S.sB)
  have aC : a ≠ C := fun z => by
    rw [z] at ho
    rw [ho] at hCs
    cases hCs
  refine PySem.W.kxs_getMethod PySem.W.kxs_ValueError e' (PySem.W.looks_opaque hK1 S.no) (l₀ := .ref C :: bm) (fun A Q E s k q => wpAny_bind ((PySem.W.looks_clsIn hK1 hcd) A _ E s k (wpAny_pure q))) rfl hK1 hup hI aC (by decide) ?_
  have I2 : Inv X [(h'.objs.size, PySem.W.kxs_mw "ValueError.__init__" a)] [some (.ref a), some v1] H { heap := h'.push (PySem.W.kxs_mw "ValueError.__init__" a), gens := s.gens, drawn := s.drawn, toks := s.toks + 2 + 1, os := s.os } := by
    refine (I1.kept (t' := s.toks + 2 + 1) (h' := h'.push (PySem.W.kxs_mw "ValueError.__init__" a)) fun b o z => Heap.get?_push_of_some _ z).pins_of fun p hp => ?_
    rw [List.mem_singleton.mp hp]
    exact ⟨Heap.get?_push_size _ rfl, I1.hok.fresh (Nat.le_refl _), Nat.ne_of_gt I1.lt, I1.nofs (Nat.le_refl _), fun v z => by cases z⟩
  refine PySem.W.kxs_callWith (i := "ValueError.__init__") (x := a) rfl (PySem.Calls.evalArgs_plain (thn ((pa_cons pe_str pa_nil : PA X [.Constant (.str m) j p3] _).run p4 _ _ _ H (fun vs H1 => vs = [V.str m] ∧ H1 = H) I2 ⟨rfl, rfl⟩) fun us s3 hh => ?_))
  obtain ⟨vs3, H3, I3, r3, rfl, rfl⟩ := hh
  obtain ⟨u3, rfl, _⟩ := vals1 r3
  have hpin := (I3.pin (h'.objs.size, PySem.W.kxs_mw "ValueError.__init__" a) (List.mem_append_right _ List.mem_cons_self)).1
  refine ⟨hpin, wrap_call (by rw [xK]; exact S.ox) I3 hpin ea fun s4 J => ?_⟩
  have J' : Inv X [] [some (.ref a), some v1] H3 s4 := J.pins_of fun p hp => nomatch hp
  refine wpAt_of_wpAny ((pss_one (ps_ost (X := X) (pe_var (i := 0) (by rw [xN]; rfl) (.inl hkse) (by decide) (by decide)) (pe_var (i := 1) (by rw [xN]; rfl) (.inl (by rw [sc]; exact SC.field)) SC.fd SC.fc) hsw)).run [] s4 _ H3 _ J' ?_)
  exact ⟨v1, rfl, .ref a, rfl, a, C, rfl, by rw [xK]; exact S.ox, by rw [xK]; exact S.nf, .inl ⟨ea, fun dx n ne => q dx n ne⟩⟩
end
end Bk
namespace Bk
open PySem PySem.Spec PyProof.Rows L2 Evl
/-! ### an error class of the program, and what is known of it -/
structure ErrK (K : PySem.W.Frag) (mg : Str → Option Value) (nm : Str) (C : Addr) : Prop where
  g : mg nm = some (.ref C)
  k : PySem.W.keepIn K (.ref C) = true
  t : PySem.W.typeIn K (.ref C) = some (.type "type")
  s : PySem.W.subIn K (.ref C) (.ref C) = some true
  v : PySem.W.subIn K (.ref C) (.type "ValueError") = some true
  ex : ExcC K C
theorem err_mk {K : PySem.W.Frag} {h : Heap} {mg : Str → Option Value} {nm : Str} {C : Addr} (X : K.In h) (G : h.Ns mainGlobals mg) (a : PySem.W.nsIn K mainGlobals nm = some (some (.ref C))) (k : PySem.W.keepIn K (.ref C) = true)
    (t : PySem.W.typeIn K (.ref C) = some (.type "type")) (s : PySem.W.subIn K (.ref C) (.ref C) = some true) (v : PySem.W.subIn K (.ref C) (.type "ValueError") = some true)
    (e1 : PySem.W.findIn K (.ref C) "__getattribute__" = some (some (.builtin "BaseException.__getattribute__"))) (e2 : PySem.W.findIn K (.ref C) "__getattr__" = some none) (e3 : PySem.W.subIn K (.ref C) (.type "BaseException") = some true) (e4 : PySem.W.hasDictIn K C = true)
    (e5 : PySem.W.findIn K (.ref C) "__class__" = some (some (.builtin "object.__class__"))) (e6 : PySem.W.specialIn K (.builtin "object.__class__") "__get__" = some (some (.builtin "getset_descriptor.__get__"))) (e7 : PySem.W.takesIn K (.builtin "object.__class__") = some true)
    (e8 : PySem.W.mroIn K C (.type "object") = some true) : ErrK K mg nm C :=
  ⟨PySem.W.mg_of X G a, k, t, s, v, ⟨e1, e2, e3, e4, e5, e6, e7, e8⟩⟩
section
variable {K : PySem.W.Frag} {mg : Str → Option Value} {nm nd : Str} {C D : Addr} {b : Bool}
theorem ErrK.cls (x : ErrK K mg nm C) : (PySem.W.clsIn K C).isSome = true := by
  obtain ⟨cd, hc, _⟩ := PySem.W.any_some x.ex.hd
  rw [hc]
  rfl
/-- an error of D where C is named by a clause -/
theorem ErrK.exm (x : ErrK K mg nm C) (h : PySem.W.subIn K (.ref D) (.ref C) = some b) : PySem.W.exmOne K (.ref D) (.ref C) = some b := PySem.W.exm_ref x.ex.hs x.ex.hd x.t h
theorem ErrK.kit (x : ErrK K mg nm C) (h : PySem.W.subIn K (.ref D) (.ref C) = some b) : PySem.W.kitOne K (.ref D) (.ref C) = some b := by
  unfold PySem.W.kitOne
  by_cases e : D = C
  · subst e
    rw [if_pos (by simp), ← h, x.s]
  · rw [if_neg (by simpa using e)]
    show (if ((PySem.W.clsIn K C).isSome && PySem.W.typeIn K (.ref C) == some (.type "type")) = true then PySem.W.subIn K (.ref D) (.ref C) else none) = some b
    rw [x.cls, x.t, h]
    rfl
theorem ErrK.kitV (x : ErrK K mg nm C) : PySem.W.kitOne K (.ref C) (.type "ValueError") = some true := by
  unfold PySem.W.kitOne
  rw [if_neg (by simp)]
  show (if PySem.W.kitMeta "ValueError" = true then _ else none) = some true
  rw [if_pos (by decide +kernel)]
  exact x.v
theorem ErrK.kitN (x : ErrK K mg nm C) : PySem.W.kitOne K (.type "NoneType") (.ref C) = some false := by
  unfold PySem.W.kitOne
  rw [if_neg (by simp)]
  show (if ((PySem.W.clsIn K C).isSome && PySem.W.typeIn K (.ref C) == some (.type "type")) = true then PySem.W.subIn K (.type "NoneType") (.ref C) else none) = some false
  rw [x.cls, x.t]
  have e : PySem.fastBuiltinMro "NoneType" = some [Value.type "NoneType", Value.type "object"] := by decide +kernel
  show (PySem.fastBuiltinMro "NoneType").map (·.contains (.ref C)) = some false
  rw [e]
  rfl
theorem kb_none_value : kitB "NoneType" "ValueError" = some false := by decide +kernel
end
/-! ### raise C(e), C with the __init__ of P19 -/
section
variable {X : Cx} {C fI : Addr} {fd : FuncData} {f x : Str} {st : Stmt} {e : Expr} {te : TE} {p pos : Pos}
theorem pmk_sup (S : SupC X.prog X.K X.mg C fI fd f st) (hb : Binds X.K fd ["self", f] []) (hr : Room 2 X.A) (hg : Gl X x) (hm : X.mg x = some (.ref C)) (ha : PA X [e] (tCons te tNil)) (hdb : (x == ("__debug__" : Str)) = false := by decide)
    (hst : starEach [e] X.env = (false, eval e X.env) :: starEach [] X.env := by rfl) : PMk X (.Call (.Name x p) [e] [] pos) (tMkO C (sp_sup C f) [] (tCons te tNil)) :=
  pmk_oex (CX := CX0) (k := 1) S.ox S.iC S.tI (sup_ok S) hr hb .nil (fun _ _ _ _ _ _ _ z => z.elim) hg hm ha hdb hst rfl
theorem mk_ev {σ : L2.St} {H : Hp} {v : V} {Q : XK} (h : Ev te σ H v) (q : ∀ H1 d, Ex H H1 → H1 d = none → Q (.ref C) (some d) (upd H1 d (.xd [(f, v)]))) : tMkO C (sp_sup C f) [] (tCons te tNil) σ H Q :=
  h H (Ex.refl H) _ fun H1 e1 => ⟨by show 1 ≤ 1000; decide, fun a ha => ⟨a, v, rfl, upd_same, fun dx hdx ne => ⟨rfl, dx, [(f, v)], upd_same, by rw [upd_ne ne, upd_same], by rw [upd_ne ne] at hdx; exact hdx, by
    have hd : H1 dx = none := by rw [upd_ne ne] at hdx; exact hdx
    have eq : upd (del (upd (upd (upd H1 a (exo a C none)) dx (exd dx [(f, v)])) a (exo a C (some dx))) a) dx (.xd [(f, v)]) = upd H1 dx (.xd [(f, v)]) := by
      funext b
      by_cases c : b = dx
      · rw [c, upd_same, upd_same]
      · rw [upd_ne c, upd_ne c]
        by_cases c2 : b = a
        · rw [c2, del_same, ha]
        · rw [del_ne c2, upd_ne c2, upd_ne c, upd_ne c2]
    rw [eq]
    exact q H1 dx e1 hd⟩⟩⟩
end
/-! ### an error that was caught and is kept -/
def ExK (cls : Value) (d : Option Addr) (a : Addr) : HO := .ext fun h => ∃ (oe : Obj) (vs : Array Value), h.get? a = some oe ∧ Zc cls d oe ∧ oe.data = .fields vs
theorem exk_ok {P : Program} {w : World} {H : Hp} {h : Heap} {a : Addr} {cls : Value} {d : Option Addr} {oe : Obj} {vs : Array Value} (e : h.get? a = some oe) (z : Zc cls d oe) (hd : oe.data = .fields vs) : ObjOk P w H h a (ExK cls d a) :=
  ⟨⟨oe, vs, e, z, hd⟩, ⟨oe, e⟩, fun _ _ ⟨o, v, q, r⟩ k => ⟨o, v, k o q, r⟩⟩
theorem exk_at {P : Program} {w : World} {H : Hp} {h : Heap} {a : Addr} {cls : Value} {d : Option Addr} (hok : HOk P w H h) (e : H a = some (ExK cls d a)) : ∃ (oe : Obj) (vs : Array Value), h.get? a = some oe ∧ Zc cls d oe ∧ oe.data = .fields vs := by
  have x : ObjOk P w H h a (.ext fun h => ∃ (oe : Obj) (vs : Array Value), h.get? a = some oe ∧ Zc cls d oe ∧ oe.data = .fields vs) := hok a _ e
  exact x.1
section
variable {X : Cx} {pins : List (Addr × Obj)} {σ : L2.St} {H : Hp} {s : Shared}
/-- an object that nobody tracks is taken up -/
theorem adopt {a : Addr} {oe : Obj} {vs : Array Value} {cls : Value} {d : Option Addr} (I : Inv X pins σ H s) (ha : s.heap.get? a = some oe) (z : Zc cls d oe) (hd : oe.data = .fields vs) (na : H a = none) (n0 : X.s_0.heap.get? a = none) (nL : a ≠ X.env.locals)
    (nP : ∀ p ∈ X.pn ++ pins, p.1 ≠ a) : Inv X pins σ (upd H a (ExK cls d a)) s := by
  have ne : ∀ {b : Addr} {o : HO}, H b = some o → b ≠ a := fun q => ne_of_none q na
  refine ⟨I.ok, I.os, I.bare, ⟨I.base.keep, I.base.slot, fun b o q n x => ?_, I.base.there, fun b xs q => ?_, fun b o u q => ?_, fun b ps q => ?_⟩, I.loc, I.cell, ?_, fun x c h => ?_, fun p hp => ?_, fun b o q => ?_, I.len⟩
  · rw [upd_ne fun z => by rw [z, n0] at q; cases q]
    exact I.base.free b o q n x
  · have r := I.base.tups b xs q
    rw [upd_ne (ne r)]
    exact r
  · have r := I.base.frzs b o u q
    rw [upd_ne (ne r)]
    exact r
  · obtain ⟨more, r⟩ := I.base.tbls b ps q
    exact ⟨more, by rw [upd_ne (ne r)]; exact r⟩
  · rw [upd_ne nL.symm]
    exact I.free
  · obtain ⟨v, o, ho, hv⟩ := I.cell x c h
    rw [upd_ne fun z => by
      rw [z, ha] at ho
      cases ho
      rw [hd] at hv
      cases hv]
    exact I.freeC x c h
  · obtain ⟨p1, p2, p3⟩ := I.pin p hp
    exact ⟨p1, by rw [upd_ne (nP p hp)]; exact p2, p3⟩
  · by_cases c : b = a
    · subst c
      rw [upd_same] at q
      cases q
      exact exk_ok ha z hd
    · rw [upd_ne c] at q
      exact (I.hok b o q).stay (fun _ _ _ r => r) (fun e r => by rw [upd_ne (ne r)]; exact r) fun e xs r => by rw [upd_ne (ne r)]; exact r
theorem suite0 (I : Inv X pins σ H s) (a : Addr) : Inv (X.suite a (X.pn ++ pins)) [] σ H s :=
  ⟨I.ok.suite _ _, I.os, I.bare, I.base, I.loc, I.cell, I.free, I.freeC, fun p hp => I.pin p (by rw [List.append_nil] at hp; exact hp), I.hok, I.len⟩
theorem unsuite0 {a : Addr} {pn' : List (Addr × Obj)} (I : Inv (X.suite a (X.pn ++ pins)) pn' σ H s) (ok : X.Ok) : Inv X pins σ H s :=
  ⟨ok, I.os, I.bare, I.base, I.loc, I.cell, I.free, I.freeC, fun p hp => I.pin p (List.mem_append_left _ hp), I.hok, I.len⟩
end
/-- what 'except x as n: suite' wishes where the error is kept -/
def wKept (K : PySem.W.Frag) (c : Value) (i : Nat) (ts : TS) (Wout : WX) (D : Ends) : WX := fun cls d σ H =>
  ∃ b, PySem.W.exmOne K cls c = some b ∧ (b = true → ∀ a, H a = none → ts { nx := fun σ' H' => D.nx (σ'.set i none) H', rt := D.rt, bk := fun σ' H' => D.bk (σ'.set i none) H', ct := fun σ' H' => D.ct (σ'.set i none) H' } (σ.set i (some (.ref a))) (upd H a (ExK cls d a))) ∧
    (b = false → Wout cls d σ H)
section
variable {X : Cx} {x n : Str} {c : Value} {i : Nat} {body suite : List Stmt} {first : Stmt} {np pos pos' : Pos} {tb : WX → TS} {ts : TS} {Wout : WX}
theorem ps_try_kept (hs : X.stack = X.env :: X.outer) (hf : X.env.frame = some X.env.locals) (hex : X.ex = []) (hN : X.N.Nodup) (hi : X.N[i]? = some n) (hln : X.env.kindOf n = some .local) (hc : Names X x c) (tk : Takes X Wout)
    (hb : ∀ (W : WX) (pn : List (Addr × Obj)) (xe : Value → Shared → Prop), Takes (X.tr pn xe) W → PassesOwn (model X.prog X.w) X.A X.env xe → PSs (X.tr pn xe) body (tb W))
    (hsu : ∀ (a : Addr) (pn : List (Addr × Obj)), PSs (X.suite a pn) (first :: suite) ts) :
    PS X (.Try body [.ExceptHandler (some (.Name x np)) (some n) (first :: suite) pos'] [] [] pos) (fun D σ H => tb (wKept X.K c i ts Wout D) D σ H) := by
  refine ⟨fun pins s σ H D I h => ?_⟩
  have ok0 := I.ok
  have frm : X.A.frames = some (X.env :: X.outer) := by rw [ok0.frames, hs]
  have isLoc : Loc X.env.scope n := .inl hln
  refine wpAny_Try_except ?_
  have run := (hb (wKept X.K c i ts Wout D) (X.pn ++ pins) (fun ev t1 => wpAny (model X.prog X.w) X.A (noteFrame ev X.env) (fun _ t2 => wpAny (model X.prog X.w) X.A (setFlight ev none) (fun _ t3 =>
    wpAny (model X.prog X.w) X.A (handleBy ev X.env [.ExceptHandler (some (.Name x np)) (some n) (first :: suite) pos']) (SP X pins D) X.xe t3) X.xe t2) X.xe t1) (fun u t' air => ?_) PassesOwn.looking).run [] s σ H D (I.toTry _) h
  · refine wpAny_mono run (fun fl t1 hfl => ?_) (fun _ _ he => he)
    cases fl with
    | next =>
      obtain ⟨σ', H', J, q⟩ := hfl
      exact wpAny_execs_nil ⟨σ', H', J.ofTry ok0, q⟩
    | brk =>
      obtain ⟨σ', H', J, q⟩ := hfl
      exact ⟨σ', H', J.ofTry ok0, q⟩
    | cont =>
      obtain ⟨σ', H', J, q⟩ := hfl
      exact ⟨σ', H', J.ofTry ok0, q⟩
    | ret u =>
      obtain ⟨v, σ', H', J, r, q⟩ := hfl
      exact ⟨v, σ', H', J.ofTry ok0, r, q⟩
  · obtain ⟨a, B, sJ, pins', σ', H', cls, d, rfl, Jt, nb, up, sky, na, eos, bare, b, hb1, hyes, hno⟩ := air
    have J : Inv X pins σ' H' sJ := Jt.ofTry ok0
    have skyE : Sky B (X.env :: X.outer) a (Zc cls d) X.env.locals t'.heap := by rw [← hs]; exact sky
    show wpAny (model X.prog X.w) X.A (noteFrame (.ref a) X.env) _ _ _
    refine Sky.land Zc.steady frm hf skyE fun g3 f3 u3 => ?_
    have J3 : Inv X pins σ' H' { t' with heap := g3 } := J.landed nb f3.1 (up.trans u3) eos bare
    obtain ⟨o3, v3, ho3, hz3, hd3⟩ := f3.there
    have notIn : ∀ {hh : Heap} {o : Obj} {vs : Array Value}, hh.FunFrames B (X.env :: X.outer) → hh.get? a = some o → o.data = .fields vs → a ∉ frs (X.env :: X.outer) := fun {hh o vs} ff e dd hm => by
      obtain ⟨_, o', e', nf⟩ := ff.mem hm
      rw [e] at e'
      cases e'
      exact nf _ dd
    have nfr := notIn f3.2.2.1 ho3 hd3
    have nL : a ≠ X.env.locals := fun z => nfr (List.mem_filterMap.mpr ⟨X.env, List.mem_cons_self, by rw [hf, z]⟩)
    have nJ : sJ.heap.get? a = none := by
      cases q : sJ.heap.get? a with
      | none => rfl
      | some o =>
        have r := nb a o q (by rw [show frs (X.tr (X.pn ++ pins) _).stack = frs (X.env :: X.outer) by rw [← hs]]; exact nfr)
        rw [f3.2.1] at r
        cases r
    have n0 : X.s_0.heap.get? a = none := by
      cases q : X.s_0.heap.get? a with
      | none => rfl
      | some o =>
        obtain ⟨o', r⟩ := J.base.there a o q (by rw [hex]; exact List.not_mem_nil)
        rw [nJ] at r
        cases r
    have nP : ∀ p ∈ X.pn ++ pins, p.1 ≠ a := fun p hp z => by
      have r := (J.pin p hp).1
      rw [z, nJ] at r
      cases r
    refine wpAny_handleBy_cons (codeAny_handlers_test ?_) (by intro q; cases q)
    have lt : PySem.W.Looks (model X.prog X.w) g3 (typeOf (.ref a)) cls := fun A Q E s k q => wpAny_typeOf_ref (k _ _ ho3) (by rw [hz3.1]; exact q)
    have lm := PySem.W.exm_one (M := model X.prog X.w) (J3.kIn) lt hb1
    have S3 := suite0 J3 a
    have asks : ∀ {Q : Value → Shared → Prop} {E : Value → Shared → Prop}, Q c { t' with heap := g3 } → wpAny (model X.prog X.w) (X.A.mark (some (.ref a))) (eval (.Name x np) X.env) Q E { t' with heap := g3 } := fun {Q E} q => by
      obtain ⟨hg, hdbg, hm | ⟨hm, hv, hnn⟩⟩ := hc
      · exact ld_glob (X := X.suite a (X.pn ++ pins)) S3 hg hm q hdbg
      · exact ld_blt (X := X.suite a (X.pn ++ pins)) S3 hg hm hv q hnn hdbg
    refine asks (lm.here ?_)
    cases b with
    | true =>
      refine codeAny_handlers_suite_as ?_
      refine HandSPX.lands_againZ f3 fun g4 f4 u4 => ?_
      have J4 : Inv X pins σ' H' { t' with heap := g4 } := J.landed nb f4.1 ((up.trans u3).trans u4) eos bare
      obtain ⟨o4, v4, ho4, hz4, hd4⟩ := f4.there
      have S4 := suite0 (adopt J4 ho4 hz4 hd4 na n0 nL nP) a
      refine store_ok (X := X.suite a (X.pn ++ pins)) (v := .ref a) S4 hN hi isLoc rfl (fun s5 S5 => ?_) (.inr hln)
      refine wpAny_mono ((hsu a (X.pn ++ pins)).run [] s5 _ _ _ S5 (hyes rfl a na)) (fun fl s6 hfl => ?_) (fun _ _ z => False.elim z)
      have away : ∀ {σ6 : L2.St} {H6 : Hp} {Q : Shared → Prop}, Inv (X.suite a (X.pn ++ pins)) [] σ6 H6 s6 → (∀ s7, Inv X pins (σ6.set i none) H6 s7 → Q s7) →
          wpAny (model X.prog X.w) X.A (do bindName X.env n .none; unbindBehindTheSuite X.env n pos') (fun _ s7 => Q s7) X.xe s6 := fun {σ6 H6 Q} S6 hq => gone_ok (unsuite0 S6 ok0) hN hi hln hq
      cases fl with
      | next =>
        obtain ⟨σ6, H6, S6, q6⟩ := hfl
        exact away S6 fun s7 J7 => ⟨_, _, J7, q6⟩
      | brk =>
        obtain ⟨σ6, H6, S6, q6⟩ := hfl
        exact away S6 fun s7 J7 => ⟨_, _, J7, q6⟩
      | cont =>
        obtain ⟨σ6, H6, S6, q6⟩ := hfl
        exact away S6 fun s7 J7 => ⟨_, _, J7, q6⟩
      | ret u =>
        obtain ⟨v6, σ6, H6, S6, r6, q6⟩ := hfl
        exact away S6 fun s7 J7 => ⟨_, _, _, J7, r6, q6⟩
    | false =>
      show wpAny _ X.A (handleBy (.ref a) X.env []) _ _ _
      refine wpAny_handleBy_nil ?_
      obtain ⟨y1, y2, y3, oe, vs, T, oT, ts', he, hz, hd, h1, hr⟩ := id f3
      unfold PySem.passOn
      refine wpAny_bind (wpAny_field he hd h1 ?_)
      rw [if_neg (show ¬ ((Value.ref T == Value.none) = true) from by simp)]
      have onward : wpAny (model X.prog X.w) X.A (setFlight (.ref a) X.env.frame) (fun _ s4 => wpAny (model X.prog X.w) X.A (throw (.ref a) : Sem Flow) (SP X pins D) X.xe s4) X.xe { t' with heap := g3 } := by
        rw [hf]
        refine HandSPX.setFlight_upZ f3 fun g4 hh4 u4 => wpAny_throw (tk _ _ ?_)
        exact ⟨a, B, sJ, pins, σ', H', cls, d, rfl, J, nb, (up.trans u3).trans u4, .inr (.inr (by rw [hs]; exact hh4)), na, eos, bare, hno rfl⟩
      first
        | exact wpAny_bind (wpAny_pure (wpAny_bind onward))
        | exact wpAny_bind onward
end
end Bk
namespace Bk
open PySem PySem.Spec PyProof.Rows L2 Evl
section
variable {X : Cx} {pins : List (Addr × Obj)} {σ : L2.St} {H : Hp} {s : Shared}
/-- where the dict of a kept error stands, if there is one -/
def Dct (H : Hp) (d : Option Addr) : Prop := ∀ dd, d = some dd → ∃ fs, H dd = some (.xd fs)
/-- isinstance(x, c) of a kept error -/
def rIsK (K : PySem.W.Frag) : List V → Hp → VK → Prop := fun xs H Q => ∃ (a D : Addr) (d : Option Addr) (c : V) (cv : Value) (b : Bool), xs = [.ref a, c] ∧ ClsV c cv ∧ H a = some (ExK (.ref D) d a) ∧ Dct H d ∧ ExcC K D ∧ PySem.W.kitOne K (.ref D) cv = some b ∧ Q (.bl b) H
theorem call_isK {X : Cx} : CallR X (.builtin "isinstance") (rIsK X.K) := by
  intro pins s σ H xs us Q I r h
  obtain ⟨a, D, d, c, cv, b, rfl, hcv, ha, hd, ex, e, q⟩ := h
  cases r with
  | cons rx rr =>
    cases rr with
    | cons rt rr =>
      cases rr
      cases rx
      have ec := hcv.eq rt
      subst ec
      obtain ⟨oe, vs, hget, hz, hv⟩ := exk_at I.hok ha
      have hcl : (PySem.W.clsIn X.K D).isSome = true := by
        obtain ⟨cd, hc, _⟩ := PySem.W.any_some ex.hd
        rw [hc]
        rfl
      obtain ⟨od, J⟩ : ∃ od, PySem.W.InstAt s.heap a oe D od := by
        obtain ⟨oc, od, oda, osl⟩ := oe
        obtain ⟨h1, h2⟩ := hz
        dsimp only at h1 h2 hv
        subst h1 h2 hv
        cases od with
        | none => exact ⟨none, hget, rfl, rfl, trivial⟩
        | some dd =>
          obtain ⟨fs, hx⟩ := hd dd rfl
          have hx' : ObjOk X.prog X.w H s.heap dd (.xd fs) := I.hok dd _ hx
          obtain ⟨mA, hns, hr⟩ := hx'
          obtain ⟨od, ho, hl⟩ := lookIn_ns hns
          exact ⟨some od, hget, rfl, rfl, ho⟩
      exact PySem.W.kia_one (PySem.W.kitx_exc hcl ex.hg ex.hk ex.hs ex.ha ex.hn ex.ht ex.hm) I.kIn J e (fun z => nomatch z) fun tk => ⟨.bl b, H, I.kept (t' := tk) fun _ _ z => z, rfl, q⟩
/-- .. of anything -/
def rIsiX (K : PySem.W.Frag) : List V → Hp → VK → Prop := fun xs H Q => rIsi K xs H Q ∨ rIsK K xs H Q
theorem call_isX {X : Cx} {K : PySem.W.Frag} (h : X.K = K) : CallR X (.builtin "isinstance") (rIsiX K) := by
  subst h
  exact call_isi.or call_isK
/-- e.f, e a kept error -/
def tXk (K : PySem.W.Frag) (f : Str) (te : TE) : TE := fun σ H Q => te σ H fun x H1 => ∃ (a C dd : Addr) (fs : List (Str × V)) (v : V), x = .ref a ∧ H1 a = some (ExK (.ref C) (some dd) a) ∧ H1 dd = some (.xd fs) ∧ XfC K C ∧ PySem.W.findIn K (.ref C) f = some none ∧ fs.lookup f = some v ∧ Q v H1
theorem pe_xk {X : Cx} {K : PySem.W.Frag} {e : Expr} {te : TE} {pos : Pos} {n : Str} (hK : X.K = K) (he : PE X e te) (hb : attributeBase e n X.env (eval e X.env) = eval e X.env := by rfl) : PE X (.Attribute e n pos) (tXk K n te) := by
  subst hK
  refine ⟨fun pins s σ H Q I h => ?_⟩
  refine attr_of hb (thn (he.run pins s σ H _ I h) fun u s1 hh => ?_)
  obtain ⟨x, H1, I1, rx, a, C, dd, fs, v, rfl, ha, hx, T, hno, l, q⟩ := hh
  obtain rfl : u = Value.ref a := rx
  obtain ⟨oe, vs, hget, hz, hd⟩ := exk_at I1.hok ha
  have hx' : ObjOk X.prog X.w H1 s1.heap dd (.xd fs) := I1.hok dd _ hx
  obtain ⟨mA, hns, hr⟩ := hx'
  obtain ⟨od, ho, hl⟩ := lookIn_ns hns
  obtain ⟨u, hu, ru⟩ := RelO.some_of (v := v) (o := mA n) (by rw [← l]; exact hr n)
  have J : PySem.W.InstAt s1.heap a oe C (some od) := ⟨hget, hz.1, by unfold PySem.W.notCls; rw [hd] <;> rfl, by rw [hz.2]; exact ho⟩
  exact HandSPX.exc_get I1.kIn J T.ga T.gg T.exC (PySem.W.findObj_own T.hdC hno rfl (by rw [hl, hu])) (handed_of ru) ⟨v, H1, I1.tok _, ru, q⟩
end
section
variable {X : Cx} {CX : CXT} {k : Nat} {f : Addr} {fd : FuncData} {ps : List Str} {sp : Sp} {E : L2.St → XK} {x : Str} {p pos : Pos} {e : Expr} {es : List Expr} {t : TA} {kws : List Keyword} {tk : TA} {ks : List Str}
/-- f(e, ..) in a try -/
theorem runGS {pins : List (Addr × Obj)} {σ : L2.St} {H : Hp} {s : Shared} {Q : VK} {us : List Value} {vs : List V} (F : FnG X.prog X.w X.K X.mg X.base CX k f fd ps sp) (hr : Rm k X.A) (hb : Binds X.K fd ps []) (hx : PassesAt CX X σ (E σ))
    (I : Inv X pins σ H s) (r : Vals vs us) (h : sp vs H Q (E σ)) : wpAny (model X.prog X.w) X.A (call (.ref f) us) (EP X pins σ Q) X.xe s := by
  have hl : us.length = ps.length := by rw [← r.length]; exact F.len _ _ _ _ h
  have b := hb s us I.kIn (by rw [List.append_nil]; exact hl)
  rw [List.append_nil] at b
  refine wpAny_call (codeAny_mono (F.run X.A X.stack s H ⟨us, []⟩ us vs Q (E σ) hr I.env0 b r h) fun r s' hq => ?_)
  cases r with
  | error e => exact hx pins H s e s' I hq
  | ok fl =>
    cases fl with
    | ret u => exact I.after hq
    | next => exact hq.elim
    | brk => exact hq.elim
    | cont => exact hq.elim
theorem callGS (F : FnG X.prog X.w X.K X.mg X.base CX k f fd ps sp) (hr : Rm k X.A) (hg : Gl X x) (hm : X.mg x = some (.ref f)) (hk : PySem.W.keepIn X.K (.ref f) = true) (hb : Binds X.K fd ps []) (hx : ∀ σ, PassesAt CX X σ (E σ))
    (ha : PA X (e :: es) t) (hdb : (x == ("__debug__" : Str)) = false := by decide) (he : starEach (e :: es) X.env = (false, eval e X.env) :: starEach es X.env := by rfl) (hpl : (backTo pos (starEach es X.env)).any (·.1) = false := by rfl) :
    PE X (.Call (.Name x p) (e :: es) [] pos) (tCallS sp E t) := by
  refine ⟨fun pins s σ H Q I h => ?_⟩
  refine wpAny_Call_Name_kw (ld_glob I hg hm ?_ hdb)
  refine PySem.W.callWith_K (h₀ := X.base) I.ok.mod.kin hk (thn (ha.run pos pins s σ H _ I h) fun us s1 ⟨vs, H1, I1, r, q⟩ => ⟨I1.kIn, ?_⟩) he hpl
  exact runGS F hr hb (hx σ) I1 r q
end
/-! ### readings -/
theorem dct_none {H : Hp} : Dct H none := fun _ h => nomatch h
theorem dct_some {H : Hp} {dd : Addr} {fs : List (Str × V)} (h : H dd = some (.xd fs)) : Dct H (some dd) := fun b e => by
  cases e
  exact ⟨fs, h⟩
theorem Dct.ex {H H' : Hp} {d : Option Addr} (h : Dct H d) (e : Ex H H') : Dct H' d := fun dd z => by
  obtain ⟨fs, q⟩ := h dd z
  exact ⟨fs, e _ _ q⟩
theorem xfc_of {K : PySem.W.Frag} {C : Addr} (x : ExcC K C) : XfC K C := ⟨x.hg, x.hk, x.hs, x.hd⟩
section
variable {K : PySem.W.Frag} {σ : L2.St} {H : Hp} {ta tc te : TE} {a D : Addr} {d : Option Addr} {c : V} {cv : Value} {b : Bool}
theorem ev_isK (h : Ev ta σ H (.ref a)) (hc : ∀ H1, Ev tc σ H1 c) (cl : ClsV c cv) (ha : H a = some (ExK (.ref D) d a)) (hd : Dct H d) (ex : ExcC K D) (k : PySem.W.kitOne K (.ref D) cv = some b) : Ev (tCB (rIsiX K) (tCons ta (tCons tc tNil))) σ H (.bl b) := fun H1 e Q q =>
  h H1 e _ fun H2 e2 => hc H2 H2 (Ex.refl H2) _ fun H3 e3 => .inr ⟨a, D, d, c, cv, b, rfl, cl, ((e.trans e2).trans e3) _ _ ha, hd.ex ((e.trans e2).trans e3), ex, k, q H3 (e2.trans e3)⟩
theorem ev_isX {x : V} {t : Value} (h : Ev ta σ H x) (hc : ∀ H1, Ev tc σ H1 c) (cl : ClsV c cv) (ty : ∀ H1, Ex H H1 → TyX K H1 x t) (k : PySem.W.kitOne K t cv = some b) : Ev (tCB (rIsiX K) (tCons ta (tCons tc tNil))) σ H (.bl b) := fun H1 e Q q =>
  h H1 e _ fun H2 e2 => hc H2 H2 (Ex.refl H2) _ fun H3 e3 => .inl ⟨x, c, t, cv, b, rfl, cl, ty H3 ((e.trans e2).trans e3), k, q H3 (e2.trans e3)⟩
theorem ev_xk {f : Str} {C dd : Addr} {fs : List (Str × V)} {v : V} (h : Ev te σ H (.ref a)) (ha : H a = some (ExK (.ref C) (some dd) a)) (hd : H dd = some (.xd fs)) (x : ExcC K C) (hno : PySem.W.findIn K (.ref C) f = some none) (l : fs.lookup f = some v) : Ev (tXk K f te) σ H v := fun H1 e Q q =>
  h H1 e _ fun H2 e2 => ⟨a, C, dd, fs, v, rfl, (e.trans e2) _ _ ha, (e.trans e2) _ _ hd, xfc_of x, hno, l, q H2 e2⟩
end
end Bk
namespace Bk
open PySem PySem.Spec PyProof.Rows L2 Evl
theorem bt_ValueError : bootBuiltins "ValueError" = some (.type "ValueError") := by decide +kernel
theorem sup_mk {P : Program} {K : PySem.W.Frag} {h : Heap} {mg : Str → Option Value} {f : Str} {st : Stmt} {C fI : Addr} (X : K.In h) (G : h.Ns mainGlobals mg)
    {nm q : Str} {N : Addr} {bs bm : List Value} {sn : List Str} {sub : List Value} {ab : Bool} {col : Option Bool} {dd : Option Addr} {k0 k1 k2 k3 k5 : Option Value}
    (lk : K.lookup C = some (excClassObj nm q C N bs bm true sn sub ab col dd k0 k1 k2 k3 k5 "ValueError.__new__")) (rv : PySem.HandSPX.refsVE bm = true)
    (sa : PySem.W.findIn K (.ref C) "__setattr__" = some (some (.builtin "object.__setattr__"))) (exC : PySem.W.subIn K (.ref C) (.type "BaseException") = some true) (tyC : PySem.W.typeIn K (.ref C) = some (.type "type")) (kC : PySem.W.keepIn K (.ref C) = true)
    (iC : PySem.W.findIn K (.ref C) "__init__" = some (some (.ref fI))) (tI : PySem.W.typeIn K (.ref fI) = some (.type "function")) (nf : PySem.W.findIn K (.ref C) f = some none)
    (up : PySem.W.ks_superIn K C C "__init__" = some (some (.builtin "ValueError.__init__"))) (sB : PySem.W.subIn K (.ref C) (.type "ValueError") = some true) (sC : PySem.W.mroIn K C (.ref C) = some true)
    (no : PySem.W.nsIn K cStatics "thirdparty.any" = some none) (gS : PySem.W.nsIn K mainGlobals "super" = some none)
    {qual : Str} {oc kV doc pm ct : Value} {od an : Option Addr} {cda cc : Addr} {osl csl ccs : Array (Option Value)} {cl ccl : Value} {cld cdd : Option Addr} {vs : Array Value} {file : Str} {tf : Tok}
    (lI : K.lookup fI = some ⟨oc, od, .func (PySem.W.fnX "__init__" qual (defArgs st) (defBody st) (defScope st) [("__class__", cc)] .none kV doc pm an (.ref cda) ct), osl⟩)
    (cI : PySem.W.codeIn K (.ref cda) qual = true) (lC : K.lookup cc = some ⟨cl, cld, .cell (some (.ref C)), csl⟩) (lD : K.lookup cda = some ⟨ccl, cdd, .fields vs, ccs⟩) (hv : vs[2]? = some (.str file tf)) (hf : ((P.main.file : Str) == file) = true)
    (top : (P.main.scope.names.lookup ("super" : Str)).isSome = false) (arg : ∃ ar, ((defArgs st).posonlyargs ++ (defArgs st).args).head? = some ar ∧ ar.arg = "self")
    (body : ∃ p0 p1 p2 p3 p4 p5 p6 p7 p8 p9 m j, defBody st = [.Expr (.Call (.Attribute (.Call (.Name "super" p0) [] [] p1) "__init__" p2) [.Constant (.str m) j p3] [] p4) p5, .Assign [.Attribute (.Name "self" p6) f p7] (.Name f p8) p9] ∧
      (∀ env, ∃ pl : Sem Bool, eval (.Call (.Attribute (.Call (.Name "super" p0) [] [] p1) "__init__" p2) [.Constant (.str m) j p3] [] p4) env = (do
        let ov ← attributeBase (.Call (.Name "super" p0) [] [] p1) "__init__" env (eval (.Call (.Name "super" p0) [] [] p1) env)
        standAt p2.atName
        let (g, first) ← holding [ov] (getMethod ov "__init__" pl)
        callWith p4 g first (backTo p4 (starEach [.Constant (.str m) j p3] env)) [])) ∧
      ∀ env, swapsWith (.Name f p8) (some (.Attribute (.Name "self" p6) f p7)) p9.line env = pure false)
    (sc : SupS f (defScope st)) :
    SupC P K mg C fI (PySem.W.fnX "__init__" qual (defArgs st) (defBody st) (defScope st) [("__class__", cc)] .none kV doc pm an (.ref cda) ct) f st :=
  { ox := ⟨⟨nm, q, N, bs, bm, sn, sub, ab, col, dd, k0, k1, k2, k3, k5, lk, rv⟩, sa, exC, tyC, kC⟩
    iC := iC
    tI := tI
    nf := nf
    up := up
    sB := sB
    sC := sC
    no := no
    gS := PySem.W.mg_none_of X G gS
    fn := ⟨qual, oc, od, kV, doc, pm, an, cda, ct, cc, osl, cl, cld, csl, ccl, cdd, ccs, vs, file, tf, rfl, lI, cI, lC, lD, hv, hf⟩
    top := top
    arg := arg
    body := body
    sc := sc }
/-! ### values of which something is known, with the heap; repr of any data -/
def EvP (te : TE) (σ : L2.St) (H : Hp) (P : V → Hp → Prop) : Prop := ∀ H1, Ex H H1 → ∀ Q : VK, (∀ v H2, Ex H1 H2 → P v H2 → Q v H2) → te σ H1 Q
def SpP (sp : Sp) (vs : List V) (H : Hp) (P : V → Hp → Prop) : Prop := ∀ H1, Ex H H1 → ∀ Q : VK, (∀ v H2, Ex H1 H2 → P v H2 → Q v H2) → ∀ E : XK, sp vs H1 Q E
def RetP (P : V → Hp → Prop) (H : Hp) (Q : VK) : Prop := ∀ v H2, Ex H H2 → P v H2 → Q v H2
mutual
theorem Dp.ex {K : PySem.W.Frag} {H H' : Hp} (e : Ex H H') : ∀ (d : PyData) (v : V), Dp K H v d → Dp K H' v d
  | .none, _, h => by cases h; exact .non
  | .bool _, _, h => by cases h; exact .bl _
  | .int _, _, h => by cases h; exact .int _
  | .str _, _, h => by cases h; exact .str _
  | .list ds, _, h => by
    cases h with
    | lst h1 h2 => exact .lst (ex_l e h1) (DpAll.ex e ds _ h2)
  | .tuple ds, _, h => by
    cases h with
    | tup h1 h2 => exact .tup (ex_t e h1) (DpAll.ex e ds _ h2)
  | .dict _, _, h => by cases h
theorem DpAll.ex {K : PySem.W.Frag} {H H' : Hp} (e : Ex H H') : ∀ (ds : List PyData) (vs : List V), DpAll K H vs ds → DpAll K H' vs ds
  | [], _, h => by cases h; exact .nil
  | d :: ds, _, h => by
    cases h with
    | cons h1 h2 => exact .cons (Dp.ex e d _ h1) (DpAll.ex e ds _ h2)
end
/-- what repr asks of data -/
def Sho (d : PyData) : Prop := d.showable = true ∧ d.hasDict = false ∧ d.depth ≤ 60 ∧ d.shown.length ≤ sizeLine
def rReprX (K : PySem.W.Frag) : List V → Hp → VK → Prop := fun xs H Q => ∃ (x : V) (d : PyData), xs = [x] ∧ Dp K H x d ∧ Sho d ∧ (∀ y, d ≠ .str y) ∧ Q (.str d.shown) H
theorem call_reprX {X : Cx} {K : PySem.W.Frag} (hK : X.K = K) (hg : X.A.guards = some []) (hu : X.A.units + 64 < cLine) : CallR X (.builtin "repr") (rReprX K) := by
  subst hK
  intro pins s σ H xs us Q I r h
  obtain ⟨x, d, rfl, hd, ⟨hs, hn, hp, hz⟩, no, q⟩ := h
  obtain ⟨u, rfl, ru⟩ := vals1 r
  obtain ⟨as, rd⟩ := Dp.reads I d x u hd ru
  have go : ∀ a, u = Value.ref a → wpAny (model X.prog X.w) X.A (call (.builtin "repr") [u]) (EP X pins σ Q) X.xe s := fun a e => by
    subst e
    refine repr_of_reads' rd hs (fun z => by rw [hn] at z; cases z) hg (by omega) (fun _ _ e => e) (fun h' u tk hk => ?_) hz
    exact ⟨.str d.shown, H, I.kept hk, ⟨u, rfl⟩, q⟩
  cases hd with
  | non =>
    cases (show u = Value.none from ru)
    exact PySem.P.repr_of_none ⟨.str "None", H, I.tok _, ⟨_, rfl⟩, q⟩
  | bl b =>
    cases (show u = Value.bool b from ru)
    cases b
    · exact PySem.P.repr_of_bool ⟨.str "False", H, I.tok _, ⟨_, rfl⟩, q⟩
    · exact PySem.P.repr_of_bool ⟨.str "True", H, I.tok _, ⟨_, rfl⟩, q⟩
  | int i =>
    obtain ⟨t, rfl⟩ := ru
    exact PySem.P.repr_of_int (by simpa [PyData.showable] using hs) ⟨.str _, H, I.tok _, ⟨_, rfl⟩, q⟩
  | str y => exact (no y rfl).elim
  | lst _ _ => exact go _ ru
  | tup _ _ => exact go _ ru
/-- evaluates to data -/
def EvD (K : PySem.W.Frag) (te : TE) (σ : L2.St) (H : Hp) (d : PyData) : Prop := EvP te σ H fun v H1 => Dp K H1 v d
def barD : Option (Nat × Str) → PyData
  | none => .none
  | some (n, s) => .tuple [.int (n : Int), .str s]
section
variable {K : PySem.W.Frag} {σ : L2.St} {H : Hp} {ta tb te : TE} {t : TA} {tt : TT} {sp : Sp} {E : XK} {vs xs : List V} {b : Option (Nat × Str)} {D : Ends} {tz : TS} {i : Nat} {P : V → Hp → Prop} {d : PyData}
theorem ep_call (h : EvA t σ H vs) (hs : SpP sp (vs ++ []) H P) : EvP (tCall sp [] E t) σ H P := fun H1 e Q q =>
  h H1 e _ fun H2 e2 => hs H2 (e.trans e2) Q (fun v H3 e3 h3 => q v H3 (e2.trans e3) h3) E
theorem q_asgP (h : EvP te σ H P) (k : ∀ v H1, Ex H H1 → P v H1 → tz D (σ.set i (some v)) H1) : tSeq (tAsg te (gName i)) tz D σ H :=
  h H (Ex.refl H) _ fun v H1 e1 h1 => k v H1 e1 h1
theorem EvP.mono {P' : V → Hp → Prop} (h : EvP te σ H P) (k : ∀ v H1, P v H1 → P' v H1) : EvP te σ H P' := fun H1 e Q q => h H1 e Q fun v H2 e2 p => q v H2 e2 (k v H2 p)
theorem ed_var {j : Nat} {v : V} (h : σ[j]? = some (some v)) (hd : Dp K H v d) : EvD K (tVar j) σ H d := fun H1 e Q q => ⟨v, h, q v H1 (Ex.refl H1) (Dp.ex e d v hd)⟩
theorem ed_L {ns : List Int} (h : EvL te σ H (vi ns)) : EvD K te σ H (.list (di ns)) := fun H1 e Q q => h H1 e Q fun p H2 _ e2 h2 => q _ H2 e2 (dp_lst (sq_of h2))
theorem ed_B (h : EvB te σ H b) : EvD K te σ H (barD b) := fun H1 e Q q => h H1 e Q fun v H2 e2 h2 => q v H2 e2 (by
  cases b with
  | none =>
    have h2' : v = .non := h2
    rw [h2']
    exact .non
  | some x =>
    obtain ⟨p, e1, g⟩ := h2
    rw [e1]
    exact .tup (st_of g) (.cons (.int _) (.cons (.str _) .nil)))
theorem ep_L (h : EvL te σ H xs) (k : ∀ p H1 H2, Ex H H1 → H1 p = none → Ex H1 H2 → H2 p = some (.lst xs) → P (.ref p) H2) : EvP te σ H P := fun H1 e Q q => h H1 e Q fun p H2 hp e2 h2 => q _ H2 e2 (k p H1 H2 e hp e2 h2)
theorem ep_U (h : EvU te σ H xs) (k : ∀ p H1 H2, Ex H H1 → H1 p = none → Ex H1 H2 → H2 p = some (.tup xs) → P (.ref p) H2) : EvP te σ H P := fun H1 e Q q => h H1 e Q fun p H2 hp e2 h2 => q _ H2 e2 (k p H1 H2 e hp e2 h2)
theorem ed_ifT (h : EvT tt σ H true) (k : ∀ H1, Ex H H1 → EvP ta σ H1 P) : EvP (tIf tt ta tb) σ H P := fun H1 e Q q =>
  h H1 e _ fun H2 e2 => iteT (k H2 (e.trans e2) H2 (Ex.refl H2) Q fun v H3 e3 p => q v H3 (e2.trans e3) p)
theorem ed_ifF (h : EvT tt σ H false) (k : ∀ H1, Ex H H1 → EvP tb σ H1 P) : EvP (tIf tt ta tb) σ H P := fun H1 e Q q =>
  h H1 e _ fun H2 e2 => iteF (k H2 (e.trans e2) H2 (Ex.refl H2) Q fun v H3 e3 p => q v H3 (e2.trans e3) p)
theorem ed_U {ds : List PyData} (h : EvU te σ H vs) (hd : DpAll K H vs ds) : EvD K te σ H (.tuple ds) := fun H1 e Q q => h H1 e Q fun p H2 _ e2 h2 => q _ H2 e2 (.tup (st_of h2) (DpAll.ex (e.trans e2) ds vs hd))
theorem ev_reprX (h : EvD K te σ H d) (hs : Sho d) (no : ∀ y, d ≠ .str y) : Ev (tCB (rReprX K) (tCons te tNil)) σ H (.str d.shown) := fun H1 e Q q =>
  h H1 e _ fun v H2 e2 hd => ⟨v, d, rfl, hd, hs, no, q H2 e2⟩
/-- x, y, z = (value, new list, first bar), by a tuple -/
theorem q_tup3B {j l : Nat} {tc : TE} {x : V} (h1 : Ev ta σ H x) (h2 : EvL tb σ H xs) (h3 : EvB tc σ H b) (k : ∀ p v H1, H p = none → Ex H H1 → H1 p = some (.lst xs) → BarV b v H1 → tz D (((σ.set i (some x)).set j (some (.ref p))).set l (some v)) H1) :
    tSeq (tAsg (tTup (tCons ta (tCons tb (tCons tc tNil)))) (gTup K 3 (gCons (gName i) (gCons (gName j) (gCons (gName l) gNil))))) tz D σ H :=
  h1 H (Ex.refl H) _ fun H1 e1 => h2 H1 e1 _ fun p H2 hp e2 g2 => h3 H2 (e1.trans e2) _ fun v H3 e3 g3 => ⟨sz_of (by show 3 ≤ 100000; decide), fun r hr => ⟨r, _, rfl, st_of upd_same, rfl, _, _, rfl, _, _, rfl, _, _, rfl, rfl,
    k p v _ (fresh_back e1 hp) (((e1.trans e2).trans e3).trans (Ex.new hr)) (Ex.new hr _ _ (e3 _ _ g2)) (g3.ex (Ex.new hr))⟩⟩
end
theorem sho_list {ns : List Int} (hw : wide 1900 ns) (hl : ns.length ≤ 4000) : Sho (.list (di ns)) := by
  refine ⟨by simp [PyData.showable, showable_ints (hw.mono (by decide))], by simp [PyData.hasDict, noDict_ints], by simp [PyData.depth, depthAll_ints], ?_⟩
  rw [PyData.shown]
  have := listText_le (shown_le (by decide) hw)
  rw [shownAll_ints, List.length_map, ← shownAll_ints] at this
  rw [sizeLine_eq]
  omega
theorem sho_none : Sho .none := ⟨rfl, rfl, by decide, by
  rw [PyData.shown]
  exact sz_of (by decide)⟩
theorem tup2_sho {n : Int} {d : PyData} (hn : n.natAbs.log2 < 1900) (h1 : d.showable = true) (h2 : d.hasDict = false) (h3 : d.depth = 0) (h4 : d.shown.length ≤ 40) : Sho (.tuple [.int n, d]) := by
  refine ⟨by simp [PyData.showable, PyData.showableAll, h1]; omega, by simp [PyData.hasDict, PyData.hasDictAll, h2], by simp [PyData.depth, PyData.depthAll, h3], ?_⟩
  rw [PyData.shown]
  have hi : ((toString n : Str)).length ≤ 1901 := by
    rw [PySem.ofString_length]
    exact int_text_length_le (by decide) hn
  have := tupleText_le (ts := PyData.shownAll [.int n, d]) (L := 1901) (by
    intro t ht
    simp only [PyData.shownAll, List.mem_cons, List.not_mem_nil, or_false] at ht
    rcases ht with e | e
    · rw [e, PyData.shown]
      exact hi
    · rw [e]
      omega)
  have e2 : (PyData.shownAll [.int n, d]).length = 2 := rfl
  rw [e2] at this
  rw [sizeLine_eq]
  omega
theorem small_log {n : Nat} (h : n < 2 ^ 100) : ((n : Int)).natAbs.log2 < 1900 := Nat.lt_of_lt_of_le (PySem.Flt.log2_lt_of (k := 100) (by decide) (by rw [Int.natAbs_natCast]; exact h)) (by decide)
theorem sho_bar {b : Option (Nat × Str)} (h : ∀ n s, b = some (n, s) → n < 2 ^ 100 ∧ (s = "rest" ∨ s = "below")) : Sho (barD b) := by
  cases b with
  | none => exact sho_none
  | some x =>
    obtain ⟨n, s⟩ := x
    obtain ⟨h1, h2⟩ := h n s rfl
    refine tup2_sho (small_log h1) rfl rfl rfl ?_
    rcases h2 with e | e <;> subst e <;> (rw [PyData.shown]; decide +kernel)
end Bk
namespace Bk
open PySem PySem.Spec PyProof.Rows L2 Evl
/-! ### for x in reversed(a tuple); any of a tuple of numbers; drawn lists and tuples in pairs -/
theorem pi_revAK {X : Cx} {K : PySem.W.Frag} {tg e : Expr} {te : TE} {p pos : Pos} (h : X.K = K) (hg : Gl X "reversed") (hm : X.mg "reversed" = none) (he : PE X e te) (hs : starEach [e] X.env = (false, eval e X.env) :: starEach [] X.env := by rfl) : PI X tg (.Call (.Name "reversed" p) [e] [] pos) (RT.iRevA K te) := by
  subst h
  exact RT.pi_revA hg hm he hs
section
variable {K : PySem.W.Frag} {σ : L2.St} {H : Hp} {ta tb te tl ti : TE} {t : TT} {D : Ends} {tu tz : TS}
theorem s_forRevT {a : Addr} {xs : List V} {j : Nat} (h : Ev tl σ H (.ref a)) (hx : SqT K H a xs) (Pv : Nat → L2.St → Hp → Prop) (h0 : ∀ H1, Ex H H1 → Pv 0 σ H1) (hl : ∀ i σ' H', i ≤ xs.length → Pv i σ' H' → SqT K H' a xs)
    (hs : ∀ i x σ' H', xs[xs.length - 1 - i]? = some x → i < xs.length → Pv i σ' H' → tu { D with nx := Pv (i + 1), ct := Pv (i + 1), bk := D.nx } (σ'.set j (some x)) H') (hd : ∀ σ' H', Pv xs.length σ' H' → D.nx σ' H') : tFor (RT.iRevA K tl) (gName j) tu D σ H :=
  h H (Ex.refl H) _ fun H1 e => ⟨a, xs, rfl, Or.inr ⟨ex_t e hx, by
    refine ⟨fun i m σ H => m = xs.length - i ∧ i ≤ xs.length ∧ Pv i σ H, ⟨xs.length, rfl, Nat.zero_le _, h0 H1 e⟩, ?_⟩
    rintro i m σ' H' ⟨rfl, hi, p⟩
    have q := hl i σ' H' hi p
    by_cases hlt : i < xs.length
    · refine .inr ⟨⟨hlt, xs, xs[xs.length - 1 - i], q, List.getElem?_eq_getElem (by omega)⟩, Pv (i + 1), fun σ2 H2 p' => ⟨xs.length - (i + 1), by omega, rfl, hlt, p'⟩, ?_⟩
      rintro x H2 ⟨rfl, gx⟩
      exact hs i x σ' H2 (gx xs q) hlt p
    · have ei : i = xs.length := by omega
      subst ei
      exact .inl ⟨Nat.le_refl _, hd σ' H' p⟩⟩⟩
theorem q_forRevT {a : Addr} {xs : List V} {j : Nat} (h : Ev tl σ H (.ref a)) (hx : SqT K H a xs) (Pv : Nat → L2.St → Hp → Prop) (h0 : ∀ H1, Ex H H1 → Pv 0 σ H1) (hl : ∀ i σ' H', i ≤ xs.length → Pv i σ' H' → SqT K H' a xs)
    (hs : ∀ i x σ' H', xs[xs.length - 1 - i]? = some x → i < xs.length → Pv i σ' H' → tu { D with nx := Pv (i + 1), ct := Pv (i + 1), bk := tz D } (σ'.set j (some x)) H') (hd : ∀ σ' H', Pv xs.length σ' H' → tz D σ' H') : tSeq (tFor (RT.iRevA K tl) (gName j) tu) tz D σ H :=
  s_forRevT (D := { D with nx := tz D }) h hx Pv h0 hl hs hd
def rAnyT (K : PySem.W.Frag) : List V → Hp → VK → Prop := fun vs H Q => ∃ (a : Addr) (ns : List Int), vs = [V.ref a] ∧ SqT K H a (vi ns) ∧ Q (.bl (ns.any fun n => n != 0)) H
theorem plain_ints : ∀ ns : List Int, PyData.plainAll (di ns) = true
  | [] => rfl
  | n :: r => by
    show PyData.plainAll (PyData.int n :: di r) = true
    rw [PyData.plainAll, plain_ints r]
    rfl
theorem call_anyT {X : Cx} (h : X.K = K) (hc : X.calm = true) : CallR X (.builtin "any") (rAnyT K) := by
  subst h
  intro pins s σ H vs us Q I r h
  obtain ⟨a, ns, rfl, hs, q⟩ := h
  obtain ⟨its, rv, ht, _⟩ := I.tuple hs
  obtain ⟨as, ra⟩ := Dp.readsAll I (di ns) (vi ns) its (dpAll_ints X.K H ns) rv
  rw [Vals.ref1 r]
  obtain ⟨o, ho, hcl, n, hd⟩ := ht
  refine PySem.W.any_tuple_data (xs := di ns) (as := as) (I.ok.hd hc) ⟨o, ho, hcl, n, hd⟩ (by simpa using ra) (plain_ints ns) ?_ fun h' tk hk => ?_
  · intro x hx
    obtain ⟨m, _, rfl⟩ := List.mem_map.mp hx
    trivial
  · refine ⟨.bl (ns.any fun n => n != 0), H, I.kept hk, ?_, q⟩
    show Value.bool _ = Value.bool _
    rw [List.any_map]
    rfl
theorem ev_anyT {a : Addr} {ns : List Int} (ha : Ev ta σ H (.ref a)) (h : SqT K H a (vi ns)) : Ev (tCB (rAnyT K) (tCons ta tNil)) σ H (.bl (ns.any fun n => n != 0)) := fun H1 e Q q =>
  ha H1 e _ fun H2 e2 => ⟨a, ns, rfl, ex_t (e.trans e2) h, q H2 e2⟩
end
section
variable {K : PySem.W.Frag} {σ : L2.St} {H : Hp} {ta tb te tl ti : TE} {a : Addr} {d d1 d2 n : Nat} {D : Ends} {tz : TS} {x z : V} {sp : Sp} {E : XK}
/-- x, y = drawn tuple, drawn tuple -/
theorem qw_parUU {i j : Nat} {PA PB : List V → Prop} (h1 : EvWU a d1 ta σ H PA) (h2 : EvWU a d2 tb σ H PB) (w : Well H a n) (hl : n + (d1 + d2) ≤ 2 ^ 50)
    (k : ∀ p q xs ys H1, H p = none → H q = none → p ≠ q → But a H H1 → Well H1 a (n + (d1 + d2)) → H1 p = some (.tup xs) → H1 q = some (.tup ys) → PA xs → PB ys → tz D ((σ.set i (some (.ref p))).set j (some (.ref q))) H1) :
    tSeq (tPar i j (tCons ta (tCons tb tNil))) tz D σ H :=
  h1 n H (But.refl a H) w (by omega) _ fun p xs H2 hp b2 w2 g2 pa => h2 (n + d1) H2 b2 w2 (by omega) _ fun q ys H3 hq b3 w3 g3 pb => ⟨_, _, rfl, by
    refine k p q xs ys _ hp (but_free b2 w2 hq) (ne_of_none g2 hq) (b2.trans b3) ?_ (b3 _ _ (w.ne hp) g2) g3 pa pb
    rw [← Nat.add_assoc]
    exact w3⟩
theorem qw_parLL {i j : Nat} {PA PB : List V → Prop} (h1 : EvWL a d1 ta σ H PA) (h2 : EvWL a d2 tb σ H PB) (w : Well H a n) (hl : n + (d1 + d2) ≤ 2 ^ 50)
    (k : ∀ p q xs ys H1, H p = none → H q = none → p ≠ q → But a H H1 → Well H1 a (n + (d1 + d2)) → H1 p = some (.lst xs) → H1 q = some (.lst ys) → PA xs → PB ys → tz D ((σ.set i (some (.ref p))).set j (some (.ref q))) H1) :
    tSeq (tPar i j (tCons ta (tCons tb tNil))) tz D σ H :=
  h1 n H (But.refl a H) w (by omega) _ fun p xs H2 hp b2 w2 g2 pa => h2 (n + d1) H2 b2 w2 (by omega) _ fun q ys H3 hq b3 w3 g3 pb => ⟨_, _, rfl, by
    refine k p q xs ys _ hp (but_free b2 w2 hq) (ne_of_none g2 hq) (b2.trans b3) ?_ (b3 _ _ (w.ne hp) g2) g3 pa pb
    rw [← Nat.add_assoc]
    exact w3⟩
/-- x, y = new tuple, new list -/
theorem q_parUL {i j : Nat} {xs ys : List V} (h1 : EvU ta σ H xs) (h2 : ∀ p H1, H p = none → Ex H H1 → H1 p = some (.tup xs) → EvL tb σ H1 ys) (k : ∀ p q H1, H p = none → H q = none → p ≠ q → Ex H H1 → H1 p = some (.tup xs) → H1 q = some (.lst ys) → tz D ((σ.set i (some (.ref p))).set j (some (.ref q))) H1) :
    tSeq (tPar i j (tCons ta (tCons tb tNil))) tz D σ H :=
  h1 H (Ex.refl H) _ fun p H2 hp e2 g2 => h2 p H2 hp e2 g2 H2 (Ex.refl H2) _ fun q H3 hq e3 g3 => ⟨_, _, rfl, k p q H3 hp (fresh_back e2 hq) (ne_of_none g2 hq) (e2.trans e3) (e3 _ _ g2) g3⟩
/-- x, y = (c, d) by a tuple -/
theorem q_tupVV {i j : Nat} {x y : V} (h1 : Ev ta σ H x) (h2 : Ev tb σ H y) (k : ∀ H1, Ex H H1 → tz D ((σ.set i (some x)).set j (some y)) H1) :
    tSeq (tAsg (tTup (tCons ta (tCons tb tNil))) (gTup K 2 (gCons (gName i) (gCons (gName j) gNil)))) tz D σ H :=
  h1 H (Ex.refl H) _ fun H2 e2 => h2 H2 e2 _ fun H3 e3 => ⟨sz_of (by show 2 ≤ 100000; decide), fun r hr => ⟨r, _, rfl, st_of upd_same, rfl, _, _, rfl, _, _, rfl, rfl, k _ ((e2.trans e3).trans (Ex.new hr))⟩⟩
/-- a new list against one that is there -/
theorem ev_neLV {p : Addr} {ns ms : List Int} (ha : EvL ta σ H (vi ns)) (hb : Ev tb σ H (.ref p)) (h : SqL K H p (vi ms)) : Ev (tOp (rNeD K) ta tb) σ H (.bl (!decide (ns = ms))) := fun H1 e Q k =>
  ha H1 e _ fun p H2 hp e2 h2 => hb H2 (e.trans e2) _ fun H3 e3 => rv_neL (sq_of (e3 _ _ h2)) (ex_l ((e.trans e2).trans e3) h) H3 (Ex.refl H3) Q fun H4 e4 => k H4 ((e2.trans e3).trans e4)
theorem ev_eqLV {p : Addr} {ns ms : List Int} (ha : EvL ta σ H (vi ns)) (hb : Ev tb σ H (.ref p)) (h : SqL K H p (vi ms)) : Ev (tOp (rEqD K) ta tb) σ H (.bl (decide (ns = ms))) := fun H1 e Q k =>
  ha H1 e _ fun p H2 hp e2 h2 => hb H2 (e.trans e2) _ fun H3 e3 => rv_eqL (sq_of (e3 _ _ h2)) (ex_l ((e.trans e2).trans e3) h) H3 (Ex.refl H3) Q fun H4 e4 => k H4 ((e2.trans e3).trans e4)
/-- f(new list, x), a new list -/
theorem el_callL1 {xs zs : List V} (h : EvL ta σ H xs) (h2 : ∀ p H1, Ex H H1 → H1 p = some (.lst xs) → Ev tb σ H1 x) (hs : ∀ p H1, Ex H H1 → H1 p = some (.lst xs) → SpL sp [.ref p, x] H1 zs) : EvL (tCall sp [] E (tCons ta (tCons tb tNil))) σ H zs := fun H1 e Q q =>
  h H1 e _ fun p H2 hp e2 g2 => h2 p H2 (e.trans e2) g2 H2 (Ex.refl H2) _ fun H3 e3 => hs p H3 ((e.trans e2).trans e3) (e3 _ _ g2) H3 (Ex.refl H3) Q (fun r H4 hr e4 h4 => q r H4 (fresh_back (e2.trans e3) hr) ((e2.trans e3).trans e4) h4) E
/-- f(x, new tuple), a new list -/
theorem el_callVU {xs zs : List V} (h : Ev ta σ H x) (h2 : EvU tb σ H xs) (hs : ∀ p H1, Ex H H1 → H1 p = some (.tup xs) → SpL sp [x, .ref p] H1 zs) : EvL (tCall sp [] E (tCons ta (tCons tb tNil))) σ H zs := fun H1 e Q q =>
  h H1 e _ fun H2 e2 => h2 H2 (e.trans e2) _ fun p H3 hp e3 g3 => hs p H3 ((e.trans e2).trans e3) g3 H3 (Ex.refl H3) Q (fun r H4 hr e4 h4 => q r H4 (fresh_back (e2.trans e3) hr) ((e2.trans e3).trans e4) h4) E
/-- [..][k] of a new list -/
theorem ev_ixN {xs : List V} {k : Int} (ha : EvL ta σ H xs) (hb : ∀ H1, Ex H H1 → Ev tb σ H1 (.int k)) (hx : atI xs k = some z) : Ev (tOp (rIxL K) ta tb) σ H z :=
  ev_opL1 ha hb fun p H1 h1 _ => rv_ixL (sq_of h1) hx
/-- xs[-1] = drawn -/
theorem sw_setLast {xs : List V} {l : Addr} {P : V → Prop} (hl : H l = some (.lst xs)) (nl : l ≠ a) (h : EvW a d te σ H P) (ho : ∀ H1, Ev ta σ H1 (.ref l)) (hi : ∀ H1, Ev tb σ H1 (.int (-1))) (hj : 0 < xs.length) (w : Well H a n) (hn : n + d ≤ 2 ^ 50)
    (k : ∀ v H1, But a H H1 → Well H1 a (n + d) → P v → D.nx σ (upd H1 l (.lst (xs.set (xs.length - 1) v)))) : tAsg te (gSub ta tb rSetL) D σ H :=
  h n H (But.refl a H) w hn _ fun v H1 b1 w1 pv => ho H1 H1 (Ex.refl H1) _ fun H2 e2 => hi H2 H2 (Ex.refl H2) _ fun H3 e3 =>
    ⟨l, xs, (-1 : Int), xs.length - 1, rfl, rfl, (e2.trans e3) _ _ (b1 _ _ nl hl), (by
      unfold ixN
      rw [if_neg (by decide), if_pos (by omega)]
      congr 1
      omega), k v H3 (b1.trans (But.ex (e2.trans e3))) (w1.ex (e2.trans e3)) pv⟩
end
section
variable {K : PySem.W.Frag} {σ : L2.St} {H : Hp} {ta tb te tl ti : TE} {a : Addr} {d n : Nat} {D : Ends} {tu tz : TS}
theorem s_forTn {a : Addr} {xs : List V} {j : Nat} (h : Ev tl σ H (.ref a)) (hx : SqT K H a xs) (Pv : Nat → L2.St → Hp → Prop) (h0 : ∀ H1, Ex H H1 → Pv 0 σ H1) (hl : ∀ i σ' H', i ≤ xs.length → Pv i σ' H' → SqT K H' a xs)
    (hs : ∀ i x σ' H', xs[i]? = some x → Pv i σ' H' → tu { D with nx := Pv (i + 1), ct := Pv (i + 1), bk := D.nx } (σ'.set j (some x)) H') (hd : ∀ σ' H', Pv xs.length σ' H' → D.nx σ' H') : tFor (iTup K tl) (gName j) tu D σ H := s_forT h hx Pv h0 hl hs hd
theorem q_forTn {a : Addr} {xs : List V} {j : Nat} (h : Ev tl σ H (.ref a)) (hx : SqT K H a xs) (Pv : Nat → L2.St → Hp → Prop) (h0 : ∀ H1, Ex H H1 → Pv 0 σ H1) (hl : ∀ i σ' H', i ≤ xs.length → Pv i σ' H' → SqT K H' a xs)
    (hs : ∀ i x σ' H', xs[i]? = some x → Pv i σ' H' → tu { D with nx := Pv (i + 1), ct := Pv (i + 1), bk := tz D } (σ'.set j (some x)) H') (hd : ∀ σ' H', Pv xs.length σ' H' → tz D σ' H') : tSeq (tFor (iTup K tl) (gName j) tu) tz D σ H := s_forTn (D := { D with nx := tz D }) h hx Pv h0 hl hs hd
theorem sw_retL {P : List V → Prop} (h : EvWL a d te σ H P) (w : Well H a n) (l : n + d ≤ 2 ^ 50) (k : ∀ p xs H1, H p = none → But a H H1 → Well H1 a (n + d) → H1 p = some (.lst xs) → P xs → D.rt (.ref p) H1) : tRet te D σ H :=
  h n H (But.refl a H) w l _ fun p xs H2 hp b2 w2 h2 px => k p xs H2 hp b2 w2 h2 px
end
theorem cut_drop (xs : List V) (m : Nat) : cutV xs (some (m : Int)) none = xs.drop m := by
  unfold cutV
  rw [HT.sIx_none, HT.sIx_nat]
  by_cases h : m ≤ xs.length
  · rw [Nat.min_eq_left h, List.take_of_length_le (by rw [List.length_drop]; exact Nat.le_refl _)]
  · rw [Nat.min_eq_right (by omega), List.drop_of_length_le (Nat.le_refl _), List.drop_of_length_le (by omega), List.take_nil]
end Bk
namespace Bk
open PySem PySem.Spec PyProof.Rows L2 Evl
/-! ### tuple * int, also once and never -/
theorem tuple_mulW1 (l : Addr) (items : Array Value) (n : Nat) (dd : Option Addr) (sl : Array (Option Value)) (x : Int) (u : Tok) (c0 : (decide (x < -(2 ^ 63)) || decide (x ≥ 2 ^ 63)) = false) (c1 : (items.isEmpty || x == 1) = true) :
    Meets (Builtin.«tuple.__mul__» ⟨[.ref l, .int x u], []⟩) (fun _ R s => s.heap.get? l = some { cls := .type "tuple", dict := dd, data := .seq items n, slots := sl } ∧
      R (.ok (.ret (Value.ref l))) s) :=
  .of_wp fun prog w A R s h => by
    obtain ⟨hp, g, d, tk, os⟩ := s
    obtain ⟨hl, h⟩ := h
    have f1 := AutoSeq1.idx_int
    wp_walk using wpAny_loadPart' hl
    repeat (first
      | (refine wpAny_ite_false (decide_eq_false (by rw [c0]; exact Bool.false_ne_true)) ?_; wp_walk using wpAny_loadPart' hl)
      | (refine wpAny_ite_true (decide_eq_true (by rw [c1])) ?_; wp_walk using wpAny_loadPart' hl))
    exact ⟨_, rfl, h⟩
theorem tuple_mulW0 (l : Addr) (items : Array Value) (n : Nat) (dd : Option Addr) (sl : Array (Option Value)) (x : Int) (u : Tok) (c0 : (decide (x < -(2 ^ 63)) || decide (x ≥ 2 ^ 63)) = false) (c1 : (items.isEmpty || x == 1) = false) (c2 : (decide (x ≤ 0) || items.isEmpty) = true) :
    Meets (Builtin.«tuple.__mul__» ⟨[.ref l, .int x u], []⟩) (fun _ R s => s.heap.get? l = some { cls := .type "tuple", dict := dd, data := .seq items n, slots := sl } ∧
      R (.ok (.ret (Value.ref s.heap.objs.size))) { s with heap := s.heap.push { cls := Value.type "tuple", data := Data.seq #[] }, toks := s.toks }) :=
  .of_wp fun prog w A R s h => by
    obtain ⟨hp, g, d, tk, os⟩ := s
    obtain ⟨hl, h⟩ := h
    have f1 := AutoSeq1.idx_int
    wp_walk using wpAny_loadPart' hl
    repeat (first
      | (refine wpAny_ite_false (decide_eq_false (by rw [c0]; exact Bool.false_ne_true)) ?_; wp_walk using wpAny_loadPart' hl)
      | (refine wpAny_ite_false (decide_eq_false (by rw [c1]; exact Bool.false_ne_true)) ?_; wp_walk using wpAny_loadPart' hl)
      | (refine wpAny_ite_true (decide_eq_true (by rw [c2])) ?_; wp_walk using wpAny_loadPart' hl))
    exact ⟨_, rfl, h⟩
def rRepTA (K : PySem.W.Frag) : R2 := fun x y H Q => ∃ l k xs, x = .ref l ∧ y = .int k ∧ SqT K H l xs ∧ xs ≠ [] ∧ 0 ≤ k ∧ k ≤ 1000 ∧ xs.length ≤ 1000 ∧ (k = 1 → Q (.ref l) H) ∧ (k ≠ 1 → ∀ p, H p = none → Q (.ref p) (upd H p (.tup (List.replicate k.toNat xs).flatten)))
theorem op_repTA {X : Cx} {K : PySem.W.Frag} (hK : X.K = K) : OpR X (binaryOp .Mult) (rRepTA K) := by
  subst hK
  intro pins s σ H x y v u Q I rx ry h
  obtain ⟨l, k, xs, rfl, rfl, hT, hne, h0, h2, hz, q1, q2⟩ := h
  by_cases hk : 2 ≤ k
  · exact op_repT pins s σ H _ _ v u Q I rx ry ⟨l, k, xs, rfl, rfl, hT, hne, hk, h2, hz, q2 (by omega)⟩
  cases rx
  obtain ⟨t, rfl⟩ := ry
  obtain ⟨its, r, ⟨⟨cls, dd, data, sl⟩, ho, hc, n, hd⟩, hs⟩ := I.tuple hT
  simp only at hc hd
  subst hc hd
  have hle : its.length = xs.length := r.length.symm
  have hn : its ≠ [] := fun e => hne (by
    rw [e] at hle
    exact List.eq_nil_of_length_eq_zero hle.symm)
  have hi : its.toArray.isEmpty = false := by
    cases its with
    | nil => exact absurd rfl hn
    | cons a b => rfl
  have c0 : (decide (k < -(2 ^ 63)) || decide (k ≥ 2 ^ 63)) = false := by
    rw [decide_eq_false (by omega), decide_eq_false (by omega)] <;> rfl
  by_cases e1 : k = 1
  · have c1 : (its.toArray.isEmpty || k == 1) = true := by
      rw [hi, Bool.false_or, e1]
      rfl
    exact wpAny_binaryOp_repeat_ref (T := "tuple") (U := "int") (by decide) ⟨_, ho, rfl⟩ (fun s' => typeIs_int s' k t) noFill_tuple_mul F.fills_int_mul F.slot_int_rmul repeat_tuple F.slot_int_index.lookup
      (call_meets F.slot_int_rmul (typeIs_int s k t) F.entry_int_rmul (F.args_int_rmul_2 _ _) (int_rmul_tuple k t l its.toArray n dd sl)
        ⟨ho, rfl, ⟨_, ho, rfl⟩, call_meets F.slot_tuple_mul ⟨_, ho, rfl⟩ F.entry_tuple_mul (F.args_tuple_mul_2 _ _) (tuple_mulW1 l its.toArray n dd sl k t c0 c1) ⟨ho, ⟨.ref l, H, I, rfl, q1 e1⟩⟩⟩)
  · have e0 : k = 0 := by omega
    have c1 : (its.toArray.isEmpty || k == 1) = false := by
      rw [hi, Bool.false_or]
      exact beq_eq_false_iff_ne.mpr (by omega)
    have c2 : (decide (k ≤ 0) || its.toArray.isEmpty) = true := by
      rw [decide_eq_true (by omega)]
      rfl
    refine wpAny_binaryOp_repeat_ref (T := "tuple") (U := "int") (by decide) ⟨_, ho, rfl⟩ (fun s' => typeIs_int s' k t) noFill_tuple_mul F.fills_int_mul F.slot_int_rmul repeat_tuple F.slot_int_index.lookup
      (call_meets F.slot_int_rmul (typeIs_int s k t) F.entry_int_rmul (F.args_int_rmul_2 _ _) (int_rmul_tuple k t l its.toArray n dd sl)
        ⟨ho, rfl, ⟨_, ho, rfl⟩, call_meets F.slot_tuple_mul ⟨_, ho, rfl⟩ F.entry_tuple_mul (F.args_tuple_mul_2 _ _) (tuple_mulW0 l its.toArray n dd sl k t c0 c1 c2) ⟨ho, ?_⟩⟩)
    have q := q2 e1
    rw [show k.toNat = 0 by omega] at q
    refine ⟨.ref s.heap.objs.size, _, I.laid (t' := s.toks) (o := .tup []) (fun b ob q => Heap.get?_push_of_some _ q) (Nat.le_refl _) ?_, rfl, q _ (I.hok.fresh (Nat.le_refl _))⟩
    exact ⟨Nat.zero_le _, [], .nil, IsTup.new _ _⟩
/-! ### more with a well: lists and tuples drawn -/
section
variable {K : PySem.W.Frag} {σ : L2.St} {H : Hp} {ta tb te tl ti : TE} {t : TA} {a : Addr} {d d1 d2 n : Nat} {D : Ends} {tz : TS} {x z : V} {sp : Sp} {E : XK} {PA PB : List V → Prop}
theorem ewl_rep {xs : List V} {P : Int → Prop} (ha : EvL ta σ (hid a H) xs) (hb : EvW a d tb σ H (fun v => ∃ r, v = .int r ∧ P r)) (hP : ∀ r, P r → 0 ≤ r ∧ r ≤ 300) (hz : xs.length ≤ 300) : EvWL a d (tOp rRep ta tb) σ H (fun ys => ∃ r, P r ∧ ys = (List.replicate r.toNat xs).flatten) := fun n H1 b w l Q q =>
  ha H1 (ex_hid b) _ fun p H2 hp e2 h2 => hb n H2 (b.trans (But.ex e2)) (w.ex e2) l _ fun v H3 b3 w3 ⟨r, er, pr⟩ => by
    subst er
    obtain ⟨r0, r1⟩ := hP r pr
    have h3 := b3 _ _ (w.ne hp) h2
    have hm : xs.length * r.toNat ≤ 300 * 300 := Nat.mul_le_mul hz (by omega)
    exact ⟨p, r, xs, rfl, rfl, h3, by omega, by omega, sz_of (by omega), fun l hl => q l _ _ (but_free ((But.ex e2).trans b3) w3 hl) (((But.ex e2).trans b3).trans (But.new hl)) (w3.ex (Ex.new hl)) upd_same ⟨r, pr, rfl⟩⟩
theorem ewl_cat {p : Addr} {xs : List V} (ha : Ev ta σ (hid a H) (.ref p)) (h : H p = some (.lst xs)) (np : p ≠ a) (hb : EvWL a d tb σ H PB) (hz : ∀ ys, PB ys → xs.length + ys.length ≤ 100000) : EvWL a d (tOp rCat ta tb) σ H (fun zs => ∃ ys, PB ys ∧ zs = xs ++ ys) := fun n H1 b w l Q q =>
  ha H1 (ex_hid b) _ fun H2 e2 => hb n H2 (b.trans (But.ex e2)) (w.ex e2) l _ fun r ys H3 hr b3 w3 h3 py => ⟨p, r, xs, ys, rfl, rfl, b3 _ _ np (e2 _ _ (b _ _ np h)), h3, sz_of (hz ys py), fun l hl => q l _ _ (but_free ((But.ex e2).trans b3) w3 hl) (((But.ex e2).trans b3).trans (But.new hl)) (w3.ex (Ex.new hl)) upd_same ⟨ys, py, rfl⟩⟩
theorem ewu_tupOf (h : EvWL a d te σ H PA) : EvWU a d (tCB (rTupOf K) (tCons te tNil)) σ H PA := fun n H1 b w l Q q =>
  h n H1 b w l _ fun p xs H2 hp b2 w2 h2 px => ⟨p, xs, rfl, .inl ⟨sq_of h2, fun l hl => q l xs _ (but_free b2 w2 hl) (b2.trans (But.new hl)) (w2.ex (Ex.new hl)) upd_same px⟩⟩
theorem ewu_tup (h : EvWA a d t σ H PA) (hz : ∀ xs, PA xs → xs.length ≤ 100000) : EvWU a d (tTup t) σ H PA := fun n H1 b w l Q q =>
  h n H1 b w l _ fun xs H2 b2 w2 pl => ⟨sz_of (hz xs pl), fun p hp => q p xs _ (but_free b2 w2 hp) (b2.trans (But.new hp)) (w2.ex (Ex.new hp)) upd_same pl⟩
theorem ewu_rep {xs : List V} {P : Int → Prop} (ha : EvU ta σ (hid a H) xs) (hb : EvW a d tb σ H (fun v => ∃ r, v = .int r ∧ P r)) (hP : ∀ r, P r → 0 ≤ r ∧ r ≤ 300) (h0 : xs ≠ []) (hz : xs.length ≤ 300) : EvWU a d (tOp (rRepTA K) ta tb) σ H (fun ys => ∃ r, P r ∧ ys = (List.replicate r.toNat xs).flatten) := fun n H1 b w l Q q =>
  ha H1 (ex_hid b) _ fun p H2 hp e2 h2 => hb n H2 (b.trans (But.ex e2)) (w.ex e2) l _ fun v H3 b3 w3 ⟨r, er, pr⟩ => by
    subst er
    obtain ⟨r0, r1⟩ := hP r pr
    have h3 := b3 _ _ (w.ne hp) h2
    refine ⟨p, r, xs, rfl, rfl, st_of h3, h0, r0, by omega, by omega, fun e1 => ?_, fun _ l hl => q l _ _ (but_free ((But.ex e2).trans b3) w3 hl) (((But.ex e2).trans b3).trans (But.new hl)) (w3.ex (Ex.new hl)) upd_same ⟨r, pr, rfl⟩⟩
    exact q p xs H3 hp ((But.ex e2).trans b3) w3 h3 ⟨r, pr, by rw [e1]; simp⟩
theorem ewu_cat (ha : EvWU a d1 ta σ H PA) (hb : EvWU a d2 tb σ H PB) (h0 : ∀ xs, PA xs → xs ≠ []) (hz : ∀ xs ys, PA xs → PB ys → xs.length + ys.length ≤ 100000) : EvWU a (d1 + d2) (tOp (rCatT K) ta tb) σ H (fun zs => ∃ xs ys, PA xs ∧ PB ys ∧ zs = xs ++ ys) := fun n H1 b w l Q q =>
  ha n H1 b w (by omega) _ fun p xs H2 hp b2 w2 h2 px => hb (n + d1) H2 (b.trans b2) w2 (by omega) _ fun r ys H3 hr b3 w3 h3 py => by
    rw [Nat.add_assoc] at w3
    have h2' := b3 _ _ (w.ne hp) h2
    refine ⟨p, r, xs, ys, rfl, rfl, st_of h2', st_of h3, h0 xs px, sz_of (hz xs ys px py), fun e => ?_, fun _ l hl => q l _ _ (but_free (b2.trans b3) w3 hl) ((b2.trans b3).trans (But.new hl)) (w3.ex (Ex.new hl)) upd_same ⟨xs, ys, px, py, rfl⟩⟩
    exact q p xs H3 hp (b2.trans b3) w3 h2' ⟨xs, ys, px, py, by rw [e, List.append_nil]⟩
/-- f(well, drawn ..), which draws itself -/
theorem ewu_callA (h : EvWA a d1 t σ H PA) (hs : ∀ vs n H1, PA vs → Well H1 a n → n + d2 ≤ 2 ^ 50 → ∀ Q : VK, (∀ p xs H2, H1 p = none → But a H1 H2 → Well H2 a (n + d2) → H2 p = some (.tup xs) → PB xs → Q (.ref p) H2) → ∀ E : XK, sp vs H1 Q E) : EvWU a (d1 + d2) (tCall sp [] E t) σ H PB := fun n H1 b w l Q q =>
  h n H1 b w (by omega) _ fun vs H2 b2 w2 pv => by
    rw [List.append_nil]
    exact hs vs (n + d1) H2 pv w2 (by omega) Q (fun p xs H3 hp b3 w3 h3 px => q p xs H3 (but_free b2 w2 hp) (b2.trans b3) (by rw [← Nat.add_assoc]; exact w3) h3 px) E
theorem ewl_callA (h : EvWA a d1 t σ H PA) (hs : ∀ vs n H1, PA vs → Well H1 a n → n + d2 ≤ 2 ^ 50 → ∀ Q : VK, (∀ p xs H2, H1 p = none → But a H1 H2 → Well H2 a (n + d2) → H2 p = some (.lst xs) → PB xs → Q (.ref p) H2) → ∀ E : XK, sp vs H1 Q E) : EvWL a (d1 + d2) (tCall sp [] E t) σ H PB := fun n H1 b w l Q q =>
  h n H1 b w (by omega) _ fun vs H2 b2 w2 pv => by
    rw [List.append_nil]
    exact hs vs (n + d1) H2 pv w2 (by omega) Q (fun p xs H3 hp b3 w3 h3 px => q p xs H3 (but_free b2 w2 hp) (b2.trans b3) (by rw [← Nat.add_assoc]; exact w3) h3 px) E
theorem ewu_mono {P1 : List V → Prop} (x : EvWU a d te σ H PA) (h : ∀ v, PA v → P1 v) : EvWU a d te σ H P1 := fun n H1 b w l Q q => x n H1 b w l Q fun p v H2 hp b2 w2 g2 k => q p v H2 hp b2 w2 g2 (h v k)
theorem ewa_mono {P1 : List V → Prop} (x : EvWA a d t σ H PA) (h : ∀ v, PA v → P1 v) : EvWA a d t σ H P1 := fun n H1 b w l Q q => x n H1 b w l Q fun vs H2 b2 w2 k => q vs H2 b2 w2 (h vs k)
theorem qw_setLast {xs : List V} {l : Addr} {P : V → Prop} (hl : H l = some (.lst xs)) (nl : l ≠ a) (h : EvW a d te σ H P) (ho : ∀ H1, Ev ta σ H1 (.ref l)) (hi : ∀ H1, Ev tb σ H1 (.int (-1))) (hj : 0 < xs.length) (w : Well H a n) (hn : n + d ≤ 2 ^ 50)
    (k : ∀ v H1, But a H H1 → Well H1 a (n + d) → P v → tz D σ (upd H1 l (.lst (xs.set (xs.length - 1) v)))) : tSeq (tAsg te (gSub ta tb rSetL)) tz D σ H := sw_setLast (D := { D with nx := tz D }) hl nl h ho hi hj w hn k
/-- xs[drawn] = drawn -/
theorem sw_setLW {xs : List V} {l : Addr} {P : V → Prop} {PI : Int → Prop} (hl : H l = some (.lst xs)) (nl : l ≠ a) (h : EvW a d1 te σ H P) (ho : ∀ H1, Ev ta σ H1 (.ref l)) (hi : EvW a d2 tb σ H (fun v => ∃ r, v = .int r ∧ PI r)) (hj : ∀ r, PI r → 0 ≤ r ∧ r < xs.length) (w : Well H a n) (hn : n + (d1 + d2) ≤ 2 ^ 50)
    (k : ∀ v (j : Nat) H1, But a H H1 → Well H1 a (n + (d1 + d2)) → P v → j < xs.length → D.nx σ (upd H1 l (.lst (xs.set j v)))) : tAsg te (gSub ta tb rSetL) D σ H :=
  h n H (But.refl a H) w (by omega) _ fun v H1 b1 w1 pv => ho H1 H1 (Ex.refl H1) _ fun H2 e2 => hi (n + d1) H2 (b1.trans (But.ex e2)) (w1.ex e2) (by omega) _ fun u H3 b3 w3 ⟨r, er, pr⟩ => by
    subst er
    obtain ⟨r0, r1⟩ := hj r pr
    obtain ⟨j, rfl⟩ : ∃ j : Nat, r = j := ⟨r.toNat, by omega⟩
    exact ⟨l, xs, (j : Int), j, rfl, rfl, b3 _ _ nl (e2 _ _ (b1 _ _ nl hl)), ixN_nat (by omega), k v j H3 ((b1.trans (But.ex e2)).trans b3) (by rw [← Nat.add_assoc]; exact w3) pv (by omega)⟩
/-- a list that is there against a new one -/
theorem ev_eqVL {p : Addr} {ns ms : List Int} (ha : Ev ta σ H (.ref p)) (h : SqL K H p (vi ns)) (hb : EvL tb σ H (vi ms)) : Ev (tOp (rEqD K) ta tb) σ H (.bl (decide (ns = ms))) := fun H1 e Q k =>
  ha H1 e _ fun H2 e2 => hb H2 (e.trans e2) _ fun p H3 hp e3 h3 => rv_eqL (ex_l ((e.trans e2).trans e3) h) (sq_of h3) H3 (Ex.refl H3) Q fun H4 e4 => k H4 ((e2.trans e3).trans e4)
/-- x, y = f(..), a pair -/
theorem q_tupP2 {i j : Nat} {P : V → Hp → Prop} (h : EvP te σ H P) (k : ∀ v H1, Ex H H1 → P v H1 → ∃ t x y, v = .ref t ∧ SqT K H1 t [x, y] ∧ tz D ((σ.set i (some x)).set j (some y)) H1) : tSeq (tAsg te (gTup K 2 (gCons (gName i) (gCons (gName j) gNil)))) tz D σ H :=
  h H (Ex.refl H) _ fun v H1 e1 p => by
    obtain ⟨t, x, y, rfl, ht, q⟩ := k v H1 e1 p
    exact ⟨t, _, rfl, ht, rfl, _, _, rfl, _, _, rfl, rfl, q⟩
end
/-! ### isinstance of a kept error, classes in a tuple -/
def rIsKT (K : PySem.W.Frag) : List V → Hp → VK → Prop := fun xs H Q => ∃ (a D tp : Addr) (d : Option Addr) (cs : List V) (us : List Value) (b : Bool), xs = [.ref a, .ref tp] ∧ H tp = some (.tup cs) ∧ Paired ClsV cs us ∧ H a = some (ExK (.ref D) d a) ∧ Dct H d ∧ ExcC K D ∧ PySem.W.kitAny K (.ref D) us = some b ∧ Q (.bl b) H
theorem call_isKT {X : Cx} {K : PySem.W.Frag} (hK : X.K = K) : CallR X (.builtin "isinstance") (rIsKT K) := by
  subst hK
  intro pins s σ H xs us Q I r h
  obtain ⟨a, D, tp, d, cs, ws, b, rfl, hT, k, ha, hd, ex, e, q⟩ := h
  obtain ⟨u1, u2, rfl, r1, r2⟩ := vals2 r
  cases (show u2 = Value.ref tp from r2)
  cases (show u1 = Value.ref a from r1)
  obtain ⟨oe, vs, hget, hz, hv⟩ := exk_at I.hok ha
  have hcl : (PySem.W.clsIn X.K D).isSome = true := by
    obtain ⟨cd, hc, _⟩ := PySem.W.any_some ex.hd
    rw [hc]
    rfl
  obtain ⟨od, J⟩ : ∃ od, PySem.W.InstAt s.heap a oe D od := by
    obtain ⟨oc, od, oda, osl⟩ := oe
    obtain ⟨h1, h2⟩ := hz
    dsimp only at h1 h2 hv
    subst h1 h2 hv
    cases od with
    | none => exact ⟨none, hget, rfl, rfl, trivial⟩
    | some dd =>
      obtain ⟨fs, hx⟩ := hd dd rfl
      have hx' : ObjOk X.prog X.w H s.heap dd (.xd fs) := I.hok dd _ hx
      obtain ⟨mA, hns, hr⟩ := hx'
      obtain ⟨od, ho, hl⟩ := lookIn_ns hns
      exact ⟨some od, hget, rfl, rfl, ho⟩
  obtain ⟨_, its, rv, o, h1, h2, n, h3⟩ := (show ObjOk X.prog X.w H s.heap tp (.tup cs) from I.hok tp _ hT)
  have e3 := ClsV.all k rv
  subst e3
  obtain ⟨oc, odd, dt, sl⟩ := o
  simp only at h2 h3
  subst h2 h3
  exact PySem.W.kia_tup (PySem.W.kitx_exc hcl ex.hg ex.hk ex.hs ex.ha ex.hn ex.ht ex.hm) I.kIn J h1 e (fun z => nomatch z) fun tk => ⟨.bl b, H, I.kept (t' := tk) fun _ _ z => z, rfl, q⟩
section
variable {K : PySem.W.Frag} {σ : L2.St} {H : Hp} {ta tc : TE} {a D : Addr} {d : Option Addr} {cs : List V} {us : List Value} {b : Bool}
theorem ev_isKT (h : Ev ta σ H (.ref a)) (hc : EvU tc σ H cs) (cl : Paired ClsV cs us) (ha : H a = some (ExK (.ref D) d a)) (hd : Dct H d) (ex : ExcC K D) (k : PySem.W.kitAny K (.ref D) us = some b) : Ev (tCB (rIsKT K) (tCons ta (tCons tc tNil))) σ H (.bl b) := fun H1 e Q q =>
  h H1 e _ fun H2 e2 => hc H2 (e.trans e2) _ fun p H3 hp e3 h3 => ⟨a, D, p, d, cs, us, b, rfl, h3, cl, ((e.trans e2).trans e3) _ _ ha, hd.ex ((e.trans e2).trans e3), ex, k, q H3 (e2.trans e3)⟩
end
end Bk
namespace Bk
open PySem PySem.Spec PyProof.Rows L2 Evl
theorem strOk_of (s : String) : PyData.strOk (Str.ofString s) = true := by
  rw [Str.ofString_eq_toList]
  unfold PyData.strOk
  refine Array.all_eq_true.mpr fun i hi => ?_
  simp
  have := (s.toList[i]'(by simpa using hi)).valid
  unfold UInt32.isValidChar Nat.isValidChar at this
  show (s.toList[i]'(by simpa using hi)).val.toNat < 1114112
  omega
theorem strOk_app {a b : Str} (h : PyData.strOk a = true) (h' : PyData.strOk b = true) : PyData.strOk (a ++ b) = true := by
  unfold PyData.strOk at *
  show ((a.cps ++ b.cps).all _) = true
  simp at *
  exact ⟨h, h'⟩
theorem strOk_from : ∀ (ts : List Str) (k : Nat) (acc : Str), PyData.strOk acc = true → (∀ t ∈ ts, PyData.strOk t = true) → PyData.strOk (textFrom k acc ts) = true
  | [], k, acc, h, _ => h
  | t :: r, k, acc, h, ht => by
    show PyData.strOk (textFrom (k + 1) (acc ++ (if k > 0 then ", " else "" : String) ++ t) r) = true
    exact strOk_from r (k + 1) _ (strOk_app (strOk_app h (strOk_of _)) (ht t List.mem_cons_self)) fun u hu => ht u (List.mem_cons_of_mem _ hu)
theorem strOk_list (ns : List Int) : PyData.strOk (PyData.list (di ns)).shown = true := by
  rw [PyData.shown]
  unfold listText
  refine strOk_app (strOk_from _ _ _ (strOk_of _) fun t ht => ?_) (strOk_of _)
  rw [shownAll_ints] at ht
  obtain ⟨i, _, rfl⟩ := List.mem_map.mp ht
  exact strOk_of _
/-! ### a list of pairs of numbers; lists of new lists -/
def Prs (H : Hp) (qs : List Addr) (ps : List (Int × Int)) : Prop := qs.length = ps.length ∧ ∀ (i : Nat) (q : Addr) (x : Int × Int), qs[i]? = some q → ps[i]? = some x → H q = some (.tup [.int x.1, .int x.2])
theorem Prs.ex {H H' : Hp} {qs : List Addr} {ps : List (Int × Int)} (h : Prs H qs ps) (e : Ex H H') : Prs H' qs ps := ⟨h.1, fun i q x a b => e _ _ (h.2 i q x a b)⟩
section
variable {K : PySem.W.Frag} {σ : L2.St} {H : Hp} {ta tb te tl : TE} {t : TA} {D : Ends} {tz : TS}
theorem q_asgPr {ta : TA} {i j n : Nat} {vs : List Nat} (f g : Nat → Int) (h : EvA ta σ H [.int (n : Int)]) (hn : n ≤ 40000) (hw : ∀ x, wipe ((wipe σ vs).set j (some x)) vs = wipe σ vs)
    (he : ∀ (m : Nat) H1, Ex H H1 → m < n → EvU te ((wipe σ vs).set j (some (.int (m : Int)))) H1 [.int (f m), .int (g m)])
    (k : ∀ p qs H1, H p = none → Ex H H1 → H1 p = some (.lst (qs.map .ref)) → Prs H1 qs ((List.range n).map fun m => (f m, g m)) → tz D (σ.set i (some (.ref p))) H1) : tSeq (tAsg (tLc (iRng1 ta) (gName j) tYes te vs) (gName i)) tz D σ H :=
  h H (Ex.refl H) _ fun H1 e1 => ⟨(n : Int), rfl, by omega, by omega, fun Dl hD => by
    refine lc_range (lo := 0) (n := (n : Int).toNat) (fun m H' => Ex H1 H' ∧ ∃ qs : List Addr, H' Dl = some (.lst (qs.map .ref)) ∧ Prs H' qs ((List.range m).map fun m => (f m, g m)) ∧ ∀ q ∈ qs, q ≠ Dl) ⟨Ex.new hD, [], upd_same, ⟨rfl, fun _ _ _ h => nomatch h⟩, fun _ h => nomatch h⟩ (fun m H' hm p => ?_) (fun H' p => ?_)
    · have e0 : (0 : Int) + (m : Int) = (m : Int) := Int.zero_add _
      show wipe ((wipe σ vs).set j (some (.int ((0 : Int) + (m : Int))))) vs = wipe σ vs ∧ tYes ((wipe σ vs).set j (some (.int ((0 : Int) + (m : Int))))) H' fun b H3 => if b = true then te ((wipe σ vs).set j (some (.int ((0 : Int) + (m : Int))))) H3 fun y H4 => ∃ acc, H4 Dl = some (.lst acc) ∧ acc.length < sizeLine ∧ _ else _
      rw [e0]
      obtain ⟨p1, qs, p2, p3, p4⟩ := p
      have hm' : m < n := by omega
      refine ⟨hw _, et_yes H' (Ex.refl H') _ fun H3 e3 => ?_⟩
      refine iteT (he m H3 ((e1.trans p1).trans e3) hm' H3 (Ex.refl H3) _ fun q H4 hq e4 g4 => ?_)
      have lq : qs.length = m := by rw [p3.1, List.length_map, List.length_range]
      have nq : q ≠ Dl := fun z => by
        rw [z, e3 _ _ p2] at hq
        cases hq
      refine ⟨qs.map .ref, e4 _ _ (e3 _ _ p2), sz_lt (by rw [List.length_map]; omega), ((p1.trans e3).trans e4).mut hD, qs ++ [q], by rw [upd_same, List.map_append]; rfl, ⟨by rw [List.length_append, List.length_map, List.length_range, lq]; rfl, fun i q' x a b => ?_⟩, fun q' hq' => ?_⟩
      · rw [List.range_succ, List.map_append] at b
        by_cases c : i < qs.length
        · rw [List.getElem?_append_left c] at a
          rw [List.getElem?_append_left (by rw [List.length_map, List.length_range]; omega)] at b
          rw [upd_ne (p4 _ (List.mem_of_getElem? a))]
          exact e4 _ _ (e3 _ _ (p3.2 i q' x a b))
        · rw [List.getElem?_append_right (by omega)] at a
          rw [List.getElem?_append_right (by rw [List.length_map, List.length_range]; omega), List.length_map, List.length_range] at b
          rw [lq] at a
          match hi : i - m, a, b with
          | 0, a, b =>
            cases a
            cases b
            rw [upd_ne nq]
            exact g4
          | z + 1, a, b => cases a
      · rcases List.mem_append.mp hq' with h | h
        · exact p4 q' h
        · rw [List.mem_singleton.mp h]
          exact nq
    · obtain ⟨p1, qs, p2, p3, p4⟩ := p
      rw [Int.toNat_natCast] at p3
      exact k Dl qs H' (fresh_back e1 hD) (e1.trans p1) p2 p3⟩
theorem el_lcPr {a : Addr} {qs : List Addr} {ps : List (Int × Int)} {i j : Nat} {vs : List Nat} (v : Nat → V) (h : Ev tl σ H (.ref a)) (hx : H a = some (.lst (qs.map .ref))) (hp : Prs H qs ps) (hz : ps.length ≤ 40000)
    (hw : ∀ x y, wipe (((wipe σ vs).set i (some x)).set j (some y)) vs = wipe σ vs) (he : ∀ (n : Nat) (x : Int × Int) H1, Ex H H1 → ps[n]? = some x → Ev te (((wipe σ vs).set i (some (.int x.1))).set j (some (.int x.2))) H1 (v n)) :
    EvL (tLc (iList K tl) (g2 K i j) tYes te vs) σ H (given ps.length (fun _ => true) v) := fun H0 e Q q => h H0 e _ fun H1 e1 => ⟨a, rfl, ⟨_, sq_of ((e.trans e1) _ _ hx)⟩, fun Dl hD =>
  lc_list (xs := qs.map .ref) (Cw H1 (fun _ => true) v Dl) ⟨hD, Ex.new hD, upd_same⟩ (fun i H' _ p => sq_of (p.2.1 _ _ ((e.trans e1) _ _ hx))) (fun n x H' hi p => by
    rw [List.getElem?_map] at hi
    cases g : qs[n]? with
    | none => rw [g] at hi; cases hi
    | some b =>
      rw [g] at hi
      cases hi
      have hl := (List.getElem?_eq_some_iff.mp g).1
      have hlr : n < ps.length := hp.1 ▸ hl
      have hR : ps[n]? = some ps[n] := List.getElem?_eq_getElem hlr
      have hb := p.2.1 _ _ ((e.trans e1) _ _ (hp.2 n b _ g hR))
      exact g2_go hb ⟨hw _ _, cw_turn p (by omega) (fun H3 _ Q q => q H3 (Ex.refl H3)) fun _ => he n _ H1 (e.trans e1) hR⟩)
    (fun H' p => q Dl H' (fresh_back e1 p.1) (e1.trans p.2.1) (by
      have := p.2.2
      rw [List.length_map, hp.1] at this
      exact this))⟩
/-- two new lists, one behind the other -/
def EvLL (t : TA) (σ : L2.St) (H : Hp) (xs ys : List V) : Prop := ∀ H1, Ex H H1 → ∀ Q : List V → Hp → Prop, (∀ p q H2, H1 p = none → H1 q = none → p ≠ q → Ex H1 H2 → H2 p = some (.lst xs) → H2 q = some (.lst ys) → Q [.ref p, .ref q] H2) → t σ H1 Q
theorem ea_LL {xs ys : List V} (h1 : EvL ta σ H xs) (h2 : EvL tb σ H ys) : EvLL (tCons ta (tCons tb tNil)) σ H xs ys := fun H1 e Q q =>
  h1 H1 e _ fun p H2 hp e2 g2 => h2 H2 (e.trans e2) _ fun r H3 hr e3 g3 => q p r H3 hp (fresh_back e2 hr) (ne_of_none g2 hr) (e2.trans e3) (e3 _ _ g2) g3
theorem q_asgLst2 {i : Nat} {xs ys : List V} (h : EvLL t σ H xs ys) (k : ∀ p q l H1, H p = none → H q = none → H l = none → p ≠ q → l ≠ p → l ≠ q → Ex H H1 → H1 p = some (.lst xs) → H1 q = some (.lst ys) → H1 l = some (.lst [.ref p, .ref q]) → tz D (σ.set i (some (.ref l))) H1) : tSeq (tAsg (tLst t) (gName i)) tz D σ H :=
  h H (Ex.refl H) _ fun p q H2 hp hq ne e2 g2 g3 => ⟨sz_of (by show 2 ≤ 100000; decide), fun l hl => k p q l _ hp hq (fresh_back e2 hl) ne (ne_of_none g2 hl).symm (ne_of_none g3 hl).symm (e2.trans (Ex.new hl)) (Ex.new hl _ _ g2) (Ex.new hl _ _ g3) upd_same⟩
theorem q_catLst2 {i : Nat} {l0 : Addr} {zs xs ys : List V} (ha : Ev ta σ H (.ref l0)) (h0 : H l0 = some (.lst zs)) (h : EvLL t σ H xs ys) (hz : zs.length ≤ 1000) (k : ∀ p q l H1, H p = none → H q = none → H l = none → p ≠ q → l ≠ p → l ≠ q → Ex H H1 → H1 p = some (.lst xs) → H1 q = some (.lst ys) → H1 l = some (.lst (zs ++ [.ref p, .ref q])) → tz D (σ.set i (some (.ref l))) H1) : tSeq (tAsg (tOp rCat ta (tLst t)) (gName i)) tz D σ H :=
  ha H (Ex.refl H) _ fun H1 e1 => h H1 e1 _ fun p q H2 hp hq ne e2 g2 g3 => ⟨sz_of (by show 2 ≤ 100000; decide), fun m hm => ⟨l0, m, zs, _, rfl, rfl, Ex.new hm _ _ (e2 _ _ (e1 _ _ h0)), upd_same, sz_of (by show zs.length + 2 ≤ 100000; omega), fun l hl => by
    have e3 := Ex.new (o := .lst [.ref p, .ref q]) hm
    have e4 := Ex.new (o := .lst (zs ++ [.ref p, .ref q])) hl
    have ee := (e2.trans e3).trans e4
    exact k p q l _ (fresh_back e1 hp) (fresh_back e1 hq) (fresh_back ((e1.trans e2).trans e3) hl) ne (ne_of_none (e3 _ _ g2) hl).symm (ne_of_none (e3 _ _ g3) hl).symm (e1.trans ee) ((e3.trans e4) _ _ g2) ((e3.trans e4) _ _ g3) upd_same⟩⟩
/-- two texts in a list, compared with the same -/
theorem ev_neSS {p : Addr} {x y : Str} (hx : PyData.strOk x = true) (hy : PyData.strOk y = true) (ha : EvL ta σ H [.str x, .str y]) (hb : Ev tb σ H (.ref p)) (h : SqL K H p [.str x, .str y]) : Ev (tOp (rNeD K) ta tb) σ H (.bl false) := fun H1 e Q k =>
  ha H1 e _ fun r H2 hr e2 h2 => hb H2 (e.trans e2) _ fun H3 e3 => ⟨.list [.str x, .str y], .list [.str x, .str y], .lst (sq_of (e3 _ _ h2)) (.cons (.str _) (.cons (.str _) .nil)), .lst (ex_l ((e.trans e2).trans e3) h) (.cons (.str _) (.cons (.str _) .nil)), by simp [SeqAt.shaped, PyData.canLay0, PyData.canLayAll0, PyData.depth, PyData.depthAll, hx, hy], by simp [SeqAt.shaped, PyData.canLay0, PyData.canLayAll0, PyData.depth, PyData.depthAll, hx, hy], by
    have e : PyData.eqv (.list [.str x, .str y]) (.list [.str x, .str y]) = true := by simp [PyData.eqv, PyData.eqvAll]
    rw [e]
    exact k H3 (e2.trans e3)⟩
theorem s_forLn' {a : Addr} {xs : List V} {tu : TS} {j : Nat} (h : Ev tl σ H (.ref a)) (hx : SqL K H a xs) (Pv : Nat → L2.St → Hp → Prop) (h0 : ∀ H1, Ex H H1 → Pv 0 σ H1) (hl : ∀ i σ' H', i ≤ xs.length → Pv i σ' H' → SqL K H' a xs)
    (hs : ∀ i x σ' H', xs[i]? = some x → Pv i σ' H' → tu { D with nx := Pv (i + 1), ct := Pv (i + 1), bk := tz D } (σ'.set j (some x)) H') (hd : ∀ σ' H', Pv xs.length σ' H' → tz D σ' H') : tSeq (tFor (iList K tl) (gName j) tu) tz D σ H :=
  s_forL (D := { D with nx := tz D }) h hx Pv h0 hl hs hd
end
end Bk
namespace Bk
open PySem PySem.Spec PyProof.Rows L2 Evl
section
variable {K : PySem.W.Frag} {σ : L2.St} {H : Hp} {ta tb tc te tl : TE} {a : Addr} {d d1 d2 d3 n : Nat} {tz : TS} {D : Ends}
theorem ewl_pure {xs : List V} {P : List V → Prop} (h : EvL te σ (hid a H) xs) (p : P xs) : EvWL a 0 te σ H P := fun n H1 b w l Q q =>
  h H1 (ex_hid b) Q fun r H2 hr e2 h2 => q r xs H2 hr (But.ex e2) (w.ex e2) h2 p
theorem ewl_catW {PA PB : List V → Prop} (ha : EvWL a d1 ta σ H PA) (hb : EvWL a d2 tb σ H PB) (hz : ∀ xs ys, PA xs → PB ys → xs.length + ys.length ≤ 100000) : EvWL a (d1 + d2) (tOp rCat ta tb) σ H (fun zs => ∃ xs ys, PA xs ∧ PB ys ∧ zs = xs ++ ys) := fun n H1 b w l Q q =>
  ha n H1 b w (by omega) _ fun p xs H2 hp b2 w2 h2 px => hb (n + d1) H2 (b.trans b2) w2 (by omega) _ fun r ys H3 hr b3 w3 h3 py => ⟨p, r, xs, ys, rfl, rfl, b3 _ _ (w.ne hp) h2, h3, sz_of (hz xs ys px py), fun l hl => q l _ _ (but_free (b2.trans b3) w3 hl) ((b2.trans b3).trans (But.new hl)) (by
    rw [← Nat.add_assoc]
    exact w3.ex (Ex.new hl)) upd_same ⟨xs, ys, px, py, rfl⟩⟩
theorem qw_par3V {i j l : Nat} {PA PB PC : V → Prop} (h1 : EvW a d1 ta σ H PA) (h2 : EvW a d2 tb σ H PB) (h3 : EvW a d3 tc σ H PC) (w : Well H a n) (hl : n + (d1 + d2 + d3) ≤ 2 ^ 50)
    (k : ∀ x y z H1, But a H H1 → Well H1 a (n + (d1 + d2 + d3)) → PA x → PB y → PC z →
      tz D (((σ.set i (some x)).set j (some y)).set l (some z)) H1) : tSeq (tPar3 i j l (tCons ta (tCons tb (tCons tc tNil)))) tz D σ H :=
  h1 n H (But.refl a H) w (by omega) _ fun x H2 b2 w2 pa => h2 (n + d1) H2 b2 w2 (by omega) _ fun y H3 b3 w3 pb => h3 (n + d1 + d2) H3 (b2.trans b3) w3 (by omega) _ fun z H4 b4 w4 pc => by
    refine ⟨_, _, _, rfl, k x y z H4 ((b2.trans b3).trans b4) ?_ pa pb pc⟩
    rw [show n + (d1 + d2 + d3) = n + d1 + d2 + d3 by omega]
    exact w4
theorem op_isB {X : Cx} : OpR X (compareOp .Is) (fun x y H Q => ∃ a b : Bool, x = V.bl a ∧ y = V.bl b ∧ Q (V.bl (a == b)) H) := by
  intro pins s σ H x y v u Q I rx ry h
  obtain ⟨a, b, rfl, rfl, q⟩ := h
  cases rx
  cases ry
  exact wpAny_is_plain (by rfl) (fin_bl I q (by cases a <;> cases b <;> rfl))
theorem op_notB {X : Cx} : OpR X (compareOp .IsNot) (fun x y H Q => ∃ a b : Bool, x = V.bl a ∧ y = V.bl b ∧ Q (V.bl (!(a == b))) H) := by
  intro pins s σ H x y v u Q I rx ry h
  obtain ⟨a, b, rfl, rfl, q⟩ := h
  cases rx
  cases ry
  exact wpAny_isNot_plain (by rfl) (fin_bl I q (by cases a <;> cases b <;> rfl))
theorem rv_isB {x y : Bool} : RV (fun x y H Q => ∃ a b : Bool, x = V.bl a ∧ y = V.bl b ∧ Q (V.bl (a == b)) H) (.bl x) (.bl y) H (.bl (x == y)) := fun H1 e Q q => ⟨x, y, rfl, rfl, q H1 (Ex.refl H1)⟩
theorem rv_notB {x y : Bool} : RV (fun x y H Q => ∃ a b : Bool, x = V.bl a ∧ y = V.bl b ∧ Q (V.bl (!(a == b))) H) (.bl x) (.bl y) H (.bl (!(x == y))) := fun H1 e Q q => ⟨x, y, rfl, rfl, q H1 (Ex.refl H1)⟩
theorem ewu_pure {xs : List V} {P : List V → Prop} (h : EvU te σ (hid a H) xs) (p : P xs) : EvWU a 0 te σ H P := fun n H1 b w l Q q =>
  h H1 (ex_hid b) Q fun r H2 hr e2 h2 => q r xs H2 hr (But.ex e2) (w.ex e2) h2 p
theorem qw_par3UVV {i j l : Nat} {PA : List V → Prop} {PB PC : V → Prop} (h1 : EvWU a d1 ta σ H PA) (h2 : EvW a d2 tb σ H PB) (h3 : EvW a d3 tc σ H PC) (w : Well H a n) (hl : n + (d1 + d2 + d3) ≤ 2 ^ 50)
    (k : ∀ p xs y z H1, H p = none → But a H H1 → Well H1 a (n + (d1 + d2 + d3)) → H1 p = some (.tup xs) → PA xs → PB y → PC z →
      tz D (((σ.set i (some (.ref p))).set j (some y)).set l (some z)) H1) : tSeq (tPar3 i j l (tCons ta (tCons tb (tCons tc tNil)))) tz D σ H :=
  h1 n H (But.refl a H) w (by omega) _ fun p xs H2 hp b2 w2 g2 pa => h2 (n + d1) H2 b2 w2 (by omega) _ fun y H3 b3 w3 pb => h3 (n + d1 + d2) H3 (b2.trans b3) w3 (by omega) _ fun z H4 b4 w4 pc => by
    refine ⟨_, _, _, rfl, k p xs y z H4 hp ((b2.trans b3).trans b4) ?_ (b4 _ _ (w.ne hp) (b3 _ _ (w.ne hp) g2)) pa pb pc⟩
    rw [show n + (d1 + d2 + d3) = n + d1 + d2 + d3 by omega]
    exact w4
/-- f(new list, new tuple), a new list -/
theorem el_callLU {sp : Sp} {E : XK} {xs ys zs : List V} (h : EvL ta σ H xs) (h2 : EvU tb σ H ys) (hs : ∀ p q H1, Ex H H1 → H1 p = some (.lst xs) → H1 q = some (.tup ys) → SpL sp [.ref p, .ref q] H1 zs) : EvL (tCall sp [] E (tCons ta (tCons tb tNil))) σ H zs := fun H1 e Q q =>
  h H1 e _ fun p H2 hp e2 g2 => h2 H2 (e.trans e2) _ fun p' H3 hp' e3 g3 => hs p p' H3 ((e.trans e2).trans e3) (e3 _ _ g2) g3 H3 (Ex.refl H3) Q (fun r H4 hr e4 h4 => q r H4 (fresh_back (e2.trans e3) hr) ((e2.trans e3).trans e4) h4) E
/-- f(x, drawn tuple) -/
theorem ew_callVU {sp : Sp} {E : XK} {x v : V} {PU : List V → Prop} (h1 : Ev ta σ (hid a H) x) (h : EvWU a d te σ H PU) (hs : ∀ p xs H1, But a H H1 → H1 p = some (.tup xs) → PU xs → SpV sp [x, .ref p] H1 v) : EvW a d (tCall sp [] E (tCons ta (tCons te tNil))) σ H (fun z => z = v) := fun n H1 bt w l Q q =>
  h1 H1 (ex_hid bt) _ fun H2 e2 => h n H2 (bt.trans (But.ex e2)) (w.ex e2) l _ fun p xs H3 hp b3 w3 g3 px => hs p xs H3 ((bt.trans (But.ex e2)).trans b3) g3 px H3 (Ex.refl H3) Q (fun H4 e4 => q v H4 (((But.ex e2).trans b3).trans (But.ex e4)) (w3.ex e4) rfl) E
theorem ew_andT {P : V → Prop} (h1 : Ev ta σ (hid a H) (.bl true)) (h2 : EvW a d tb σ H P) : EvW a d (tAndV ta tb) σ H P := fun n H1 bt w l Q q =>
  h1 H1 (ex_hid bt) _ fun H2 e2 => ⟨true, rfl, iteT (h2 n H2 (bt.trans (But.ex e2)) (w.ex e2) l Q fun v H3 b3 w3 p => q v H3 ((But.ex e2).trans b3) w3 p)⟩
/-- [(f(k), g(k)) for k in range(n) if test][0], where one k alone passes -/
theorem ep_lcP0 {ta : TA} {tt : TT} {t0 : TE} {j n M : Nat} {vs : List Nat} {x y : V} (b : Nat → Bool) (h : EvA ta σ H [.int (n : Int)]) (hn : n ≤ 40000) (hM : M < n) (hb : ∀ m, m < n → (b m = true ↔ m = M)) (hw : ∀ x, wipe ((wipe σ vs).set j (some x)) vs = wipe σ vs)
    (ht : ∀ (m : Nat) H1, Ex H H1 → m < n → EvT tt ((wipe σ vs).set j (some (.int (m : Int)))) H1 (b m)) (he : ∀ H1, Ex H H1 → EvU te ((wipe σ vs).set j (some (.int (M : Int)))) H1 [x, y]) (hz : ∀ H1, Ev t0 σ H1 (.int 0)) :
    EvP (tOp (rIxL K) (tLc (iRng1 ta) (gName j) tt te vs) t0) σ H (fun v H1 => ∃ t, v = .ref t ∧ SqT K H1 t [x, y]) := fun H0 e Q q =>
  h H0 e _ fun H1 e1 => ⟨(n : Int), rfl, by omega, by omega, fun Dl hD => by
    refine lc_range (lo := 0) (n := (n : Int).toNat) (fun m H' => Ex H1 H' ∧ ((m ≤ M ∧ H' Dl = some (.lst [])) ∨ (M < m ∧ ∃ q, q ≠ Dl ∧ H' Dl = some (.lst [.ref q]) ∧ H' q = some (.tup [x, y])))) ⟨Ex.new hD, .inl ⟨Nat.zero_le _, upd_same⟩⟩ (fun m H' hm p => ?_) (fun H' p => ?_)
    · have e0 : (0 : Int) + (m : Int) = (m : Int) := Int.zero_add _
      show wipe ((wipe σ vs).set j (some (.int ((0 : Int) + (m : Int))))) vs = wipe σ vs ∧ tt ((wipe σ vs).set j (some (.int ((0 : Int) + (m : Int))))) H' fun b H3 => if b = true then te ((wipe σ vs).set j (some (.int ((0 : Int) + (m : Int))))) H3 fun y H4 => ∃ acc, H4 Dl = some (.lst acc) ∧ acc.length < sizeLine ∧ _ else _
      rw [e0]
      obtain ⟨p1, p2⟩ := p
      have hm' : m < n := by omega
      refine ⟨hw _, ht m H' ((e.trans e1).trans p1) hm' H' (Ex.refl H') _ fun H3 e3 => ?_⟩
      by_cases c : m = M
      · subst c
        rw [if_pos ((hb m hm').mpr rfl)]
        rcases p2 with ⟨_, g⟩ | ⟨z, _⟩
        · refine he H3 (((e.trans e1).trans p1).trans e3) H3 (Ex.refl H3) _ fun q' H4 hq e4 g4 => ?_
          have nq : q' ≠ Dl := fun z => by
            rw [z, e3 _ _ g] at hq
            cases hq
          exact ⟨[], e4 _ _ (e3 _ _ g), sz_lt (by show 0 < 100000; decide), ((p1.trans e3).trans e4).mut hD, .inr ⟨Nat.lt_succ_self _, q', nq, upd_same, by rw [upd_ne nq]; exact g4⟩⟩
        · exact absurd z (Nat.lt_irrefl _)
      · rw [if_neg fun z => c ((hb m hm').mp z)]
        refine ⟨p1.trans e3, ?_⟩
        rcases p2 with ⟨z, g⟩ | ⟨z, q', nq, g, g'⟩
        · exact .inl ⟨by omega, e3 _ _ g⟩
        · exact .inr ⟨by omega, q', nq, e3 _ _ g, e3 _ _ g'⟩
    · obtain ⟨p1, p2⟩ := p
      rcases p2 with ⟨z, _⟩ | ⟨z, q', nq, g, g'⟩
      · omega
      · exact hz H' H' (Ex.refl H') _ fun H2 e2 => rv_ixL (sq_of (e2 _ _ g)) rfl H2 (Ex.refl H2) Q fun H3 e3 => q _ H3 (e1.trans ((p1.trans e2).trans e3)) ⟨q', rfl, st_of (e3 _ _ (e2 _ _ g'))⟩⟩
end
end Bk
namespace Bk
open PySem PySem.Spec PyProof.Rows L2 Evl
/-! ### own classes: methods, making, properties, len and in, where the stack holds no repr -/
theorem Rm.in1 {k : Nat} {A : Around} (r : Rm (k + 1) A) : Rm k A.in1 := ⟨r.rm.in1, r.gd⟩
theorem Rm.make {k : Nat} {A : Around} (r : Rm (k + 1) A) (C : Addr) (us : List Value) (kw : List (Str × Value)) : Rm k (A.under (.builtin "type.__call__" ⟨.ref C :: us, kw⟩)) := ⟨r.rm.make C us kw, by
  have e : (A.under (.builtin "type.__call__" ⟨.ref C :: us, kw⟩)).guards = A.guards := by
    first
      | rfl
      | simp [Around.under, Code.guards, Code.isGuard, guardIds, pushGuards]
  rw [e]
  exact r.gd⟩
section
variable {X : Cx} {CX : CXT} {k : Nat} {f C p g a : Addr} {fd : FuncData} {ps : List Str} {sp : Sp} {E : XK} {x m : Str} {pos apos ppos : Pos} {e o : Expr} {es : List Expr} {ta : TE} {t : TA}
/-- o.m(e, ..) -/
theorem pe_methG {pl : Sem Bool} (he : PE X o ta) (c : Cls X.K C) (hm : Meth X.K C m f) (F : FnG X.prog X.w X.K X.mg X.base CX k f fd ps sp) (hr : Rm k X.A) (hb : Binds X.K fd ps []) (hx : Passes CX X E) (ha : PA X (e :: es) t)
    (hst : starEach (e :: es) X.env = (false, eval e X.env) :: starEach es X.env := by rfl) (hpl : (backTo pos (starEach es X.env)).any (·.1) = false := by rfl)
    (ht : eval (.Call (.Attribute o m apos) (e :: es) [] pos) X.env = (do
      let ov ← eval o X.env
      standAt apos.atName
      let (f, first) ← holding [ov] (getMethod ov m pl)
      callWith pos f first (backTo pos (starEach (e :: es) X.env)) (backToKw pos (keywordEach [] X.env))) := by rfl) :
    PE X (.Call (.Attribute o m apos) (e :: es) [] pos) (tMeth C m sp [] E ta t) := by
  refine ⟨fun pins s σ H Q I h => ?_⟩
  refine PySem.W.methodCall_KW (pl := pl) (thn (he.run pins s σ H _ I h) fun u s1 ⟨x, H1, I1, rx, a, dx, fs, ex, ea, l, q⟩ => ?_) ht
  subst ex
  obtain rfl : u = Value.ref a := rx
  refine getmeth_ok I1 ea c hm l ?_
  refine PySem.W.callWith_K (first := [.ref a]) (h₀ := X.base) I.ok.mod.kin hm.kp (thn (ha.run pos pins s1 σ H1 _ I1 q) fun us s2 ⟨vs, H2, I2, r, q2⟩ => ⟨I2.kIn, ?_⟩) hst hpl
  exact runG (us := .ref a :: us) (vs := .ref a :: vs) F hr hb .nil hx I2 (.cons rfl r) q2
/-- o.m() -/
theorem pe_methG0 {pl : Sem Bool} (he : PE X o ta) (c : Cls X.K C) (hm : Meth X.K C m f) (F : FnG X.prog X.w X.K X.mg X.base CX k f fd ps sp) (hr : Rm k X.A) (hb : Binds X.K fd ps []) (hx : Passes CX X E)
    (ht : eval (.Call (.Attribute o m apos) [] [] pos) X.env = (do
      let ov ← eval o X.env
      standAt apos.atName
      let (f, first) ← holding [ov] (getMethod ov m pl)
      callWith pos f first (backTo pos (starEach [] X.env)) (backToKw pos (keywordEach [] X.env))) := by rfl) :
    PE X (.Call (.Attribute o m apos) [] [] pos) (tMeth C m sp [] E ta tNil) := by
  refine ⟨fun pins s σ H Q I h => ?_⟩
  refine PySem.W.methodCall_KW (pl := pl) (thn (he.run pins s σ H _ I h) fun u s1 ⟨x, H1, I1, rx, a, dx, fs, ex, ea, l, q⟩ => ?_) ht
  subst ex
  obtain rfl : u = Value.ref a := rx
  refine getmeth_ok I1 ea c hm l ?_
  exact PySem.W.callWith_K0 (first := [.ref a]) I1.kIn hm.kp (runG (us := [.ref a]) (vs := [.ref a]) F hr hb .nil hx I1 (.cons rfl .nil) q)
/-- C() -/
theorem pe_makeG0 (M : Mk X.K C f) (F : FnG X.prog X.w X.K X.mg X.base CX k f fd ps sp) (hr : Rm (k + 1) X.A) (hg : Gl X x) (hm : X.mg x = some (.ref C)) (hb : Binds X.K fd ps []) (hx : Passes CX X E)
    (hdb : (x == ("__debug__" : Str)) = false := by decide) : PE X (.Call (.Name x ppos) [] [] pos) (tMake C sp [] E tNil) := by
  refine ⟨fun pins s σ H Q I h => ?_⟩
  refine wpAny_Call_Name_kw (ld_glob I hg hm ?_ hdb)
  refine PySem.W.callWith_K0 I.kIn M.kp ?_
  have hq := h (s.heap.objs.size + 1) s.heap.objs.size (I.hok.fresh (Nat.le_succ _)) (I.hok.fresh (Nat.le_refl _)) (Nat.ne_of_lt (Nat.lt_succ_self _))
  have I2 := Inv.made (C := C) I
  have hl : ([Value.ref (s.heap.objs.size + 1)] ++ ([] : List Value)).length = ps.length := (F.len _ _ _ _ hq : [V.ref (s.heap.objs.size + 1)].length = ps.length)
  refine wpAny_call (make_map (f := f) I.kIn M.makes M.init (beq_iff_eq.mp M.fn) (codeAny_mono (F.run _ X.stack _ _ ⟨[Value.ref (s.heap.objs.size + 1)], []⟩ [Value.ref (s.heap.objs.size + 1)] [V.ref (s.heap.objs.size + 1)] _ E (hr.make C [] [])
    (I2.env0.make C [] []) (hb _ [Value.ref (s.heap.objs.size + 1)] I2.kIn hl) (.cons rfl .nil) hq) fun r s' hq' => ?_))
  cases r with
  | error e => exact hx pins σ _ _ e s' I2 hq'
  | ok fl =>
    cases fl with
    | ret u =>
      obtain ⟨v, H', I3, rv, ev, q3⟩ := I2.after hq'
      subst ev
      exact ⟨rv, ⟨V.ref (s.heap.objs.size + 1), H', I3, rfl, q3⟩⟩
    | next => exact False.elim hq'
    | brk => exact False.elim hq'
    | cont => exact False.elim hq'
/-- o.f, a property -/
theorem pe_propG (he : PE X e ta) (c : Cls X.K C) (hp : PropOf X.K C x p g) (F : FnG X.prog X.w X.K X.mg X.base CX k g fd ps sp) (hr : Rm (k + 1) X.A) (hb : Binds X.K fd ps []) (hx : Passes CX X.nox E)
    (hab : attributeBase e x X.env (eval e X.env) = eval e X.env) : PE X (.Attribute e x pos) (tProp C sp [] E ta) := by
  refine ⟨fun pins s σ H Q I0 h => ?_⟩
  refine attr_of hab (thn (he.run pins s σ H _ I0 h) fun u s1 ⟨y, H1, I, rx, a, dx, fs, ex, ea, h⟩ => ?_)
  subst ex
  obtain rfl : u = Value.ref a := rx
  obtain ⟨mA, O, _, _, _, _⟩ := ins_get I.hok ea
  obtain ⟨od, J, _⟩ := O.look
  obtain ⟨rest, hrec⟩ := hp.rec_
  have I1 := I.tok (s1.toks + 1)
  have hl : ([Value.ref a] ++ ([] : List Value)).length = ps.length := (F.len _ _ _ _ h : [V.ref a].length = ps.length)
  have hc : (PySem.W.clsIn X.K C).isSome = true := by
    obtain ⟨cd, hc, _⟩ := PySem.W.any_some c.hd
    rw [hc]
    rfl
  refine PySem.W.get_bind I.kIn J (PySem.W.plainGet_of (c.get x)).1 (PySem.W.findObj_data hc hp.at_ hp.get hp.tak) (PySem.W.plainGet_of (c.get x)).2 (wpAny_call (PySem.W.prop_get (s := { s1 with toks := s1.toks + 1 }) I.kIn hrec ?_))
  refine codeAny_mono (F.run X.A.in1 X.stack { s1 with toks := s1.toks + 1 } H1 ⟨[.ref a], []⟩ [.ref a] [.ref a] Q E hr.in1 I1.env0.in1 (hb _ [.ref a] I1.kIn hl) (.cons rfl .nil) h) fun r s' hq => ?_
  cases r with
  | error er => exact False.elim (hx pins σ H1 { s1 with toks := s1.toks + 1 } er s' (I1.wish _) hq)
  | ok fl =>
    cases fl with
    | ret u =>
      obtain ⟨v, H', I3, rv, q3⟩ := I1.after hq
      show wpAny _ _ (handedOut u) _ _ _
      rw [PySem.W.handedOut_of (handed_of rv)]
      exact wpAny_pure ⟨v, H', I3, rv, q3⟩
    | next => exact False.elim hq
    | brk => exact False.elim hq
    | cont => exact False.elim hq
/-- len(o) by an own __len__ -/
def rLenO (C : Addr) (sp : Sp) (E : XK) : List V → Hp → VK → Prop := fun xs H Q => ∃ a dx fs, xs = [V.ref a] ∧ H a = some (.ins C dx fs) ∧ sp [.ref a] H (fun v H2 => ∃ n : Nat, v = .int (n : Int) ∧ n < 2 ^ 62 ∧ Q (.int (n : Int)) H2) E
theorem call_lenO (hs : Meth X.K C "__len__" f) (F : FnG X.prog X.w X.K X.mg X.base CX k f fd ps sp) (hr : Rm (k + 1) X.A) (hb : Binds X.K fd ps []) (hx : Passes CX X E) : CallR X (.builtin "len") (rLenO C sp E) := by
  intro pins s σ H xs us Q I r h
  obtain ⟨a, dx, fs, rfl, ea, h⟩ := h
  obtain ⟨u, rfl, ru⟩ := vals1 r
  cases (show u = Value.ref a from ru)
  obtain ⟨mA, O, _, _, _, _⟩ := ins_get I.hok ea
  obtain ⟨od, J, _⟩ := O.look
  obtain ⟨m, hF⟩ := I.fr
  have hl : ([Value.ref a] ++ ([] : List Value)).length = ps.length := (F.len _ _ _ _ h : [V.ref a].length = ps.length)
  refine PySem.W.len_K hF I.ok.mod.kin J hs.at_ hs.fn (wpAny_call (codeAny_mono (F.run X.A.in1 X.stack s H ⟨[.ref a], []⟩ [.ref a] [.ref a] _ E hr.in1 I.env0.in1 (hb s [.ref a] I.kIn hl) (.cons rfl .nil) h) fun r s' hq => ?_))
  have z := endG I hx r s' hq
  cases r with
  | error e => exact z
  | ok fl =>
    cases fl with
    | ret u =>
      obtain ⟨v, H', I3, rv, n, rfl, hn, q⟩ := z
      obtain ⟨tk, rfl⟩ := rv
      exact ⟨⟨by omega, by omega⟩, V.int (n : Int), H', I3.tok _, ⟨_, rfl⟩, q⟩
    | _ => exact z.elim
/-- x in o by an own __contains__ -/
def rInO (C : Addr) (sp : Sp) (E : XK) (neg : Bool) : R2 := fun x y H Q => ∃ a dx fs, y = V.ref a ∧ H a = some (.ins C dx fs) ∧ sp [.ref a, x] H (fun v H2 => ∃ b : Bool, v = .bl b ∧ Q (.bl (if neg then !b else b)) H2) E
theorem in_run {pins : List (Addr × Obj)} {s : Shared} {σ : L2.St} {H : Hp} {x : V} {u : Value} {Q : VK} {dx : Addr} {fs : List (Str × V)} {R : Bool → Shared → Prop} (F : FnG X.prog X.w X.K X.mg X.base CX k f fd ps sp) (hr : Rm k X.A) (hb : Binds X.K fd ps []) (hx : Passes CX X E)
    (I : Inv X pins σ H s) (ru : RelV x u) (h : sp [.ref a, x] H Q E) (hq : ∀ v s', EP X pins σ Q v s' → ∃ b, v = .bool b ∧ R b s') : wpAny (model X.prog X.w) X.A (call (.ref f) [.ref a, u]) (fun r s' => wpAny (model X.prog X.w) X.A (truthy r) R X.xe s') X.xe s := by
  have hl : ([Value.ref a, u] ++ ([] : List Value)).length = ps.length := (F.len _ _ _ _ h : [V.ref a, x].length = ps.length)
  refine wpAny_call (codeAny_mono (F.run X.A X.stack s H ⟨[.ref a, u], []⟩ [.ref a, u] [.ref a, x] _ E hr I.env0 (hb s [.ref a, u] I.kIn hl) (.cons rfl (.cons ru .nil)) h) fun r s' hz => ?_)
  have z := endG I hx r s' hz
  cases r with
  | error e => exact z
  | ok fl =>
    cases fl with
    | ret v =>
      obtain ⟨b, rfl, w⟩ := hq v s' z
      exact wpAny_truthy_bool w
    | _ => exact z.elim
theorem op_inO (hs : Meth X.K C "__contains__" f) (F : FnG X.prog X.w X.K X.mg X.base CX k f fd ps sp) (hr : Rm k X.A) (hb : Binds X.K fd ps []) (hx : Passes CX X E) : OpR X (compareOp .In) (rInO C sp E false) := by
  intro pins s σ H x y v u Q I rx ry h
  obtain ⟨a, dx, fs, rfl, ea, h⟩ := h
  cases (show u = Value.ref a from ry)
  obtain ⟨mA, O, _, _, _, _⟩ := ins_get I.hok ea
  obtain ⟨od, J, _⟩ := O.look
  obtain ⟨m, hF⟩ := I.fr
  refine PySem.W.in_K hF I.ok.mod.kin J hs.at_ hs.fn (in_run (dx := dx) (fs := fs) F hr hb hx I rx h fun w s' z => ?_)
  obtain ⟨v, H', I3, rv, b, rfl, q⟩ := z
  cases rv
  exact ⟨b, rfl, V.bl b, H', I3, rfl, q⟩
theorem op_notInO (hs : Meth X.K C "__contains__" f) (F : FnG X.prog X.w X.K X.mg X.base CX k f fd ps sp) (hr : Rm k X.A) (hb : Binds X.K fd ps []) (hx : Passes CX X E) : OpR X (compareOp .NotIn) (rInO C sp E true) := by
  intro pins s σ H x y v u Q I rx ry h
  obtain ⟨a, dx, fs, rfl, ea, h⟩ := h
  cases (show u = Value.ref a from ry)
  obtain ⟨mA, O, _, _, _, _⟩ := ins_get I.hok ea
  obtain ⟨od, J, _⟩ := O.look
  obtain ⟨m, hF⟩ := I.fr
  refine PySem.W.notIn_K hF I.ok.mod.kin J hs.at_ hs.fn (in_run (dx := dx) (fs := fs) F hr hb hx I rx h fun w s' z => ?_)
  obtain ⟨v, H', I3, rv, b, rfl, q⟩ := z
  cases rv
  exact ⟨b, rfl, V.bl (!b), H', I3, rfl, q⟩
end
end Bk
namespace Bk
open PySem PySem.Spec PyProof.Rows L2 Evl
/-! ### readings: own classes -/
section
variable {K : PySem.W.Frag} {σ : L2.St} {H : Hp} {ta tb te tv : TE} {t : TA} {D : Ends} {tz : TS} {p C dx : Addr} {fs : List (Str × V)} {f m : Str} {v x z : V} {vs xs : List V} {sp : Sp} {E : XK} {P : V → Hp → Prop}
theorem ev_fld (h : Ev ta σ H (.ref p)) (hp : H p = some (.ins C dx fs)) (c : Cls K C) (n : NoAttr K C f) (l : fs.lookup f = some v) : Ev (tFld K ta f) σ H v := fun H1 e Q q =>
  h H1 e _ fun H2 e2 => ⟨p, C, dx, fs, v, rfl, (e.trans e2) _ _ hp, c, n, l, q H2 e2⟩
theorem ev_meth (h : Ev ta σ H (.ref p)) (hp : H p = some (.ins C dx fs)) (l : fs.lookup m = none) (ha : EvA t σ H vs) (hs : SpV sp (.ref p :: (vs ++ [])) H z) : Ev (tMeth C m sp [] E ta t) σ H z := fun H1 e Q q =>
  h H1 e _ fun H2 e2 => ⟨p, dx, fs, rfl, (e.trans e2) _ _ hp, l, ha H2 (e.trans e2) _ fun H3 e3 => hs H3 ((e.trans e2).trans e3) Q (fun H4 e4 => q H4 ((e2.trans e3).trans e4)) E⟩
theorem el_meth (h : Ev ta σ H (.ref p)) (hp : H p = some (.ins C dx fs)) (l : fs.lookup m = none) (ha : EvA t σ H vs) (hs : SpL sp (.ref p :: (vs ++ [])) H xs) : EvL (tMeth C m sp [] E ta t) σ H xs := fun H1 e Q q =>
  h H1 e _ fun H2 e2 => ⟨p, dx, fs, rfl, (e.trans e2) _ _ hp, l, ha H2 (e.trans e2) _ fun H3 e3 => hs H3 ((e.trans e2).trans e3) Q (fun r H4 hr e4 h4 => q r H4 (fresh_back (e2.trans e3) hr) ((e2.trans e3).trans e4) h4) E⟩
theorem eu_meth (h : Ev ta σ H (.ref p)) (hp : H p = some (.ins C dx fs)) (l : fs.lookup m = none) (ha : EvA t σ H vs) (hs : SpU sp (.ref p :: (vs ++ [])) H xs) : EvU (tMeth C m sp [] E ta t) σ H xs := fun H1 e Q q =>
  h H1 e _ fun H2 e2 => ⟨p, dx, fs, rfl, (e.trans e2) _ _ hp, l, ha H2 (e.trans e2) _ fun H3 e3 => hs H3 ((e.trans e2).trans e3) Q (fun r H4 hr e4 h4 => q r H4 (fresh_back (e2.trans e3) hr) ((e2.trans e3).trans e4) h4) E⟩
theorem s_meth (h : Ev ta σ H (.ref p)) (hp : H p = some (.ins C dx fs)) (l : fs.lookup m = none) (ha : EvA t σ H vs) (k : ∀ H1, Ex H H1 → sp (.ref p :: (vs ++ [])) H1 (fun _ H2 => D.nx σ H2) E) : tDrop (tMeth C m sp [] E ta t) D σ H :=
  h H (Ex.refl H) _ fun H2 e2 => ⟨p, dx, fs, rfl, e2 _ _ hp, l, ha H2 e2 _ fun H3 e3 => k H3 (e2.trans e3)⟩
theorem q_meth (h : Ev ta σ H (.ref p)) (hp : H p = some (.ins C dx fs)) (l : fs.lookup m = none) (ha : EvA t σ H vs) (k : ∀ H1, Ex H H1 → sp (.ref p :: (vs ++ [])) H1 (fun _ H2 => tz D σ H2) E) : tSeq (tDrop (tMeth C m sp [] E ta t)) tz D σ H :=
  s_meth (D := { D with nx := tz D }) h hp l ha k
theorem ev_prop (h : Ev ta σ H (.ref p)) (hp : H p = some (.ins C dx fs)) (hs : SpV sp [.ref p] H z) : Ev (tProp C sp [] E ta) σ H z := fun H1 e Q q =>
  h H1 e _ fun H2 e2 => ⟨p, dx, fs, rfl, (e.trans e2) _ _ hp, hs H2 (e.trans e2) Q (fun H3 e3 => q H3 (e2.trans e3)) E⟩
theorem ev_lenO {n : Nat} (h : Ev ta σ H (.ref p)) (hp : H p = some (.ins C dx fs)) (hs : SpV sp [.ref p] H (.int (n : Int))) (hn : n < 2 ^ 62) : Ev (tCB (rLenO C sp E) (tCons ta tNil)) σ H (.int (n : Int)) := fun H1 e Q q =>
  h H1 e _ fun H2 e2 => ⟨p, dx, fs, rfl, (e.trans e2) _ _ hp, hs H2 (e.trans e2) _ (fun H3 e3 => ⟨n, rfl, hn, q H3 (e2.trans e3)⟩) E⟩
theorem rv_inO {b : Bool} (hp : H p = some (.ins C dx fs)) (hs : SpV sp [.ref p, x] H (.bl b)) : RV (rInO C sp E false) x (.ref p) H (.bl b) := fun H1 e Q q =>
  ⟨p, dx, fs, rfl, e _ _ hp, hs H1 e _ (fun H2 e2 => ⟨b, rfl, q H2 e2⟩) E⟩
theorem rv_notInO {b : Bool} (hp : H p = some (.ins C dx fs)) (hs : SpV sp [.ref p, x] H (.bl b)) : RV (rInO C sp E true) x (.ref p) H (.bl (!b)) := fun H1 e Q q =>
  ⟨p, dx, fs, rfl, e _ _ hp, hs H1 e _ (fun H2 e2 => ⟨b, rfl, q H2 e2⟩) E⟩
theorem q_tupU {i j : Nat} {y : V} (h : EvU te σ H [x, y]) (k : ∀ H1, Ex H H1 → tz D ((σ.set i (some x)).set j (some y)) H1) : tSeq (tAsg te (gTup K 2 (gCons (gName i) (gCons (gName j) gNil)))) tz D σ H :=
  q_tupP2 (P := fun v H1 => ∃ t, v = .ref t ∧ SqT K H1 t [x, y]) (ep_U h fun p H1 H2 _ _ _ g => ⟨p, rfl, st_of g⟩) fun v H1 e1 ⟨t, ev, ht⟩ => ⟨t, x, y, ev, ht, k H1 e1⟩
theorem s_fldL (hv : EvL tv σ H xs) (ha : ∀ H1, Ex H H1 → Ev ta σ H1 (.ref p)) (hp : H p = some (.ins C dx fs)) (c : Cls K C) (n : NoAttr K C f) (hl : fs.length < 1000)
    (k : ∀ l H1, H l = none → Ex H H1 → H1 l = some (.lst xs) → D.nx σ (upd H1 p (.ins C dx (putF f (.ref l) fs)))) : sFld K ta tv f D σ H :=
  hv H (Ex.refl H) _ fun l H1 hl0 e1 h1 => ha H1 e1 H1 (Ex.refl H1) _ fun H2 e2 => ⟨p, C, dx, fs, rfl, (e1.trans e2) _ _ hp, c, n, hl, k l H2 hl0 (e1.trans e2) (e2 _ _ h1)⟩
theorem q_fldL (hv : EvL tv σ H xs) (ha : ∀ H1, Ex H H1 → Ev ta σ H1 (.ref p)) (hp : H p = some (.ins C dx fs)) (c : Cls K C) (n : NoAttr K C f) (hl : fs.length < 1000)
    (k : ∀ l H1, H l = none → Ex H H1 → H1 l = some (.lst xs) → tz D σ (upd H1 p (.ins C dx (putF f (.ref l) fs)))) : tSeq (sFld K ta tv f) tz D σ H :=
  s_fldL (D := { D with nx := tz D }) hv ha hp c n hl k
end
/-! repr of a number; more of drawn lists -/
section
variable {K : PySem.W.Frag} {σ : L2.St} {H : Hp} {ta tb te tl : TE} {a : Addr} {d d1 d2 n : Nat} {D : Ends} {tz : TS} {sp : Sp} {E : XK}
theorem ev_reprI {i : Int} (h : Ev te σ H (.int i)) (hz : i.natAbs.log2 < 1920) : Ev (tCB (fun xs H Q => ∃ i, xs = [V.int i] ∧ i.natAbs.log2 < 1920 ∧ Q (.str (toString i)) H) (tCons te tNil)) σ H (.str (toString i)) := fun H1 e Q q =>
  h H1 e _ fun H2 e2 => ⟨i, rfl, hz, q H2 e2⟩
theorem ew_intB (h : EvW a d te σ H (fun v => ∃ b, v = .bl b)) : EvW a d (tCB (fun xs H Q => (∃ i, xs = [V.int i] ∧ Q (.int i) H) ∨ ∃ k, xs = [V.bl k] ∧ Q (.int (if k then 1 else 0)) H) (tCons te tNil)) σ H (fun v => ∃ r, v = .int r ∧ (r = 0 ∨ r = 1)) := fun n H1 b w l Q q =>
  h n H1 b w l _ fun v H2 b2 w2 ⟨c, e⟩ => .inr ⟨c, by rw [e], q _ H2 b2 w2 (by
    cases c with
    | true => exact ⟨1, rfl, .inr rfl⟩
    | false => exact ⟨0, rfl, .inl rfl⟩)⟩
theorem ew_callL {v : V} {PL : List V → Prop} (h : EvWL a d te σ H PL) (hs : ∀ p xs H1, H1 p = some (.lst xs) → PL xs → SpV sp [.ref p] H1 v) : EvW a d (tCall sp [] E (tCons te tNil)) σ H (fun z => z = v) := fun n H1 bt w l Q q =>
  h n H1 bt w l _ fun p xs H2 hp b2 w2 g2 px => hs p xs H2 g2 px H2 (Ex.refl H2) Q (fun H3 e3 => q v H3 (b2.trans (But.ex e3)) (w2.ex e3) rfl) E
theorem q_asgRaw {i : Nat} (h : te σ H fun v H1 => tz D (σ.set i (some v)) H1) : tSeq (tAsg te (gName i)) tz D σ H := h
end
/-! ### what is kept but at some places -/
def Off (S : List Addr) (H H' : Hp) : Prop := ∀ b o, b ∉ S → H b = some o → H' b = some o
theorem Off.ex {S : List Addr} {H H' : Hp} (e : Ex H H') : Off S H H' := fun b o _ h => e b o h
theorem Off.but {a : Addr} {S : List Addr} {H H' : Hp} (e : But a H H') (h : a ∈ S) : Off S H H' := fun b o n g => e b o (fun z => n (z ▸ h)) g
theorem Off.trans {S : List Addr} {H H1 H2 : Hp} (x : Off S H H1) (y : Off S H1 H2) : Off S H H2 := fun b o n h => y b o n (x b o n h)
theorem Off.more {S S' : List Addr} {H H' : Hp} (x : Off S H H') (h : ∀ a ∈ S, a ∈ S') : Off S' H H' := fun b o n g => x b o (fun z => n (h b z)) g
theorem Off.back {S : List Addr} {H0 H H' : Hp} (e : Ex H0 H) (x : Off S H H') (h : ∀ a ∈ S, H0 a = none) : Ex H0 H' := fun b o g => x b o (fun z => by
  have := h b z
  rw [this] at g
  cases g) (e b o g)
theorem Off.less {S S' : List Addr} {H H' : Hp} (x : Off S H H') (h : ∀ a ∈ S, a ∉ S' → H a = none) : Off S' H H' := fun b o n g => x b o (fun z => by
  have := h b z n
  rw [this] at g
  cases g) g
end Bk
namespace Bk
open PySem PySem.Spec PyProof.Rows L2 Evl
/-- o.m(..), what is raised is wished for at the caller's slots -/
def tMethS (C : Addr) (m : Str) (sp : Sp) (E : L2.St → XK) (ta : TE) (t : TA) : TE := fun σ H Q => ta σ H fun x H1 => ∃ a dx fs, x = .ref a ∧ H1 a = some (.ins C dx fs) ∧ fs.lookup m = none ∧ t σ H1 fun vs H2 => sp (x :: vs) H2 Q (E σ)
section
variable {X : Cx} {CX : CXT} {k : Nat} {f C : Addr} {fd : FuncData} {ps ks : List Str} {sp : Sp} {E : L2.St → XK} {E0 : XK} {m : Str} {pos apos : Pos} {e o : Expr} {es : List Expr} {kws : List Keyword} {ta : TE} {t tk : TA}
theorem pe_methGS {pl : Sem Bool} (he : PE X o ta) (c : Cls X.K C) (hm : Meth X.K C m f) (F : FnG X.prog X.w X.K X.mg X.base CX k f fd ps sp) (hr : Rm k X.A) (hb : Binds X.K fd ps []) (hx : ∀ σ, PassesAt CX X σ (E σ)) (ha : PA X (e :: es) t)
    (hst : starEach (e :: es) X.env = (false, eval e X.env) :: starEach es X.env := by rfl) (hpl : (backTo pos (starEach es X.env)).any (·.1) = false := by rfl)
    (ht : eval (.Call (.Attribute o m apos) (e :: es) [] pos) X.env = (do
      let ov ← eval o X.env
      standAt apos.atName
      let (f, first) ← holding [ov] (getMethod ov m pl)
      callWith pos f first (backTo pos (starEach (e :: es) X.env)) (backToKw pos (keywordEach [] X.env))) := by rfl) :
    PE X (.Call (.Attribute o m apos) (e :: es) [] pos) (tMethS C m sp E ta t) := by
  refine ⟨fun pins s σ H Q I h => ?_⟩
  refine PySem.W.methodCall_KW (pl := pl) (thn (he.run pins s σ H _ I h) fun u s1 ⟨x, H1, I1, rx, a, dx, fs, ex, ea, l, q⟩ => ?_) ht
  subst ex
  obtain rfl : u = Value.ref a := rx
  refine getmeth_ok I1 ea c hm l ?_
  refine PySem.W.callWith_K (first := [.ref a]) (h₀ := X.base) I.ok.mod.kin hm.kp (thn (ha.run pos pins s1 σ H1 _ I1 q) fun us s2 ⟨vs, H2, I2, r, q2⟩ => ⟨I2.kIn, ?_⟩) hst hpl
  exact runGS (us := .ref a :: us) (vs := .ref a :: vs) F hr hb (hx σ) I2 (.cons rfl r) q2
theorem pe_methGS0 {pl : Sem Bool} (he : PE X o ta) (c : Cls X.K C) (hm : Meth X.K C m f) (F : FnG X.prog X.w X.K X.mg X.base CX k f fd ps sp) (hr : Rm k X.A) (hb : Binds X.K fd ps []) (hx : ∀ σ, PassesAt CX X σ (E σ))
    (ht : eval (.Call (.Attribute o m apos) [] [] pos) X.env = (do
      let ov ← eval o X.env
      standAt apos.atName
      let (f, first) ← holding [ov] (getMethod ov m pl)
      callWith pos f first (backTo pos (starEach [] X.env)) (backToKw pos (keywordEach [] X.env))) := by rfl) :
    PE X (.Call (.Attribute o m apos) [] [] pos) (tMethS C m sp E ta tNil) := by
  refine ⟨fun pins s σ H Q I h => ?_⟩
  refine PySem.W.methodCall_KW (pl := pl) (thn (he.run pins s σ H _ I h) fun u s1 ⟨x, H1, I1, rx, a, dx, fs, ex, ea, l, q⟩ => ?_) ht
  subst ex
  obtain rfl : u = Value.ref a := rx
  refine getmeth_ok I1 ea c hm l ?_
  exact PySem.W.callWith_K0 (first := [.ref a]) I1.kIn hm.kp (runGS (us := [.ref a]) (vs := [.ref a]) F hr hb (hx σ) I1 (.cons rfl .nil) q)
theorem runGKS {pins : List (Addr × Obj)} {σ : L2.St} {H : Hp} {s : Shared} {Q : VK} {us ws : List Value} {vs zs : List V} {g : List Value → List Value → List Value} {gV : List V → List V → List V} (F : FnG X.prog X.w X.K X.mg X.base CX k f fd ps sp) (hr : Rm k X.A) (hb : KBinds X.K fd ps ks g gV) (hx : PassesAt CX X σ (E σ))
    (I : Inv X pins σ H s) (r : Vals vs us) (rz : Vals zs ws) (h : sp (gV vs zs) H Q (E σ)) : wpAny (model X.prog X.w) X.A (call (.ref f) us (ks.zip ws)) (EP X pins σ Q) X.xe s := by
  have rv := hb.rel r rz
  have hl : (g us ws).length = ps.length := rv.length.symm.trans (F.len _ _ _ _ h)
  refine wpAny_call (codeAny_mono (F.run X.A X.stack s H ⟨us, ks.zip ws⟩ (g us ws) (gV vs zs) Q (E σ) hr I.env0 (hb.to s us ws I.kIn hl) rv h) fun r s' hq => ?_)
  cases r with
  | error e => exact hx pins H s e s' I hq
  | ok fl =>
    cases fl with
    | ret u => exact I.after hq
    | next => exact hq.elim
    | brk => exact hq.elim
    | cont => exact hq.elim
/-- o.m(k = e) in a try -/
def tMethKS (C : Addr) (m : Str) (sp : Sp) (gV : List V → List V → List V) (E : L2.St → XK) (ta : TE) (tk : TA) : TE := fun σ H Q => ta σ H fun x H1 => ∃ a dx fs, x = .ref a ∧ H1 a = some (.ins C dx fs) ∧ fs.lookup m = none ∧ tk σ H1 fun zs H2 => sp (gV [x] zs) H2 Q (E σ)
theorem pe_methGSK {pl : Sem Bool} {g : List Value → List Value → List Value} {gV : List V → List V → List V} (he : PE X o ta) (c : Cls X.K C) (hm : Meth X.K C m f) (F : FnG X.prog X.w X.K X.mg X.base CX k f fd ps sp) (hr : Rm k X.A) (hb : KBinds X.K fd ps ks g gV) (hx : ∀ σ, PassesAt CX X σ (E σ)) (hkw : PK X kws tk)
    (hall : (backToKw pos (keywordEach kws X.env)).all (·.1.isSome) = true := by rfl) (hks : (backToKw pos (keywordEach kws X.env)).filterMap (·.1) = ks := by rfl)
    (hpl : ((backTo pos (starEach [] X.env)).any (·.1) || (backToKw pos (keywordEach kws X.env)).any (·.1.isNone)) = false := by rfl)
    (ht : eval (.Call (.Attribute o m apos) [] kws pos) X.env = (do
      let ov ← eval o X.env
      standAt apos.atName
      let (f, first) ← holding [ov] (getMethod ov m pl)
      callWith pos f first (backTo pos (starEach [] X.env)) (backToKw pos (keywordEach kws X.env))) := by rfl) :
    PE X (.Call (.Attribute o m apos) [] kws pos) (tMethKS C m sp gV E ta tk) := by
  refine ⟨fun pins s σ H Q I h => ?_⟩
  refine PySem.W.methodCall_KW (pl := pl) (thn (he.run pins s σ H _ I h) fun u s1 ⟨x, H1, I1, rx, a, dx, fs, ex, ea, l, q⟩ => ?_) ht
  subst ex
  obtain rfl : u = Value.ref a := rx
  refine getmeth_ok I1 ea c hm l ?_
  refine PySem.W.callWith_KW0 (first := [.ref a]) (h₀ := X.base) I.ok.mod.kin hm.kp hall (thn (hkw.run pos pins s1 σ H1 _ I1 q) ?_) hpl
  intro ws s2 ⟨zs, H2, I2, rz, q2⟩
  refine ⟨I2.kIn, ?_⟩
  rw [hks]
  exact runGKS (us := [.ref a]) (vs := [.ref a]) F hr hb (hx σ) I2 (.cons rfl .nil) rz q2
end
section
variable {K : PySem.W.Frag} {σ : L2.St} {H : Hp} {ta te : TE} {t tk : TA} {D : Ends} {tz : TS} {p C dx : Addr} {fs : List (Str × V)} {m : Str} {v : V} {vs zs : List V} {sp : Sp} {E : L2.St → XK} {i : Nat}
/-- x = o.m(..) in a try -/
theorem s_asgMS (h : Ev ta σ H (.ref p)) (hp : H p = some (.ins C dx fs)) (l : fs.lookup m = none) (ha : EvA t σ H vs) (k : ∀ H1, Ex H H1 → sp (.ref p :: vs) H1 (fun v H2 => D.nx (σ.set i (some v)) H2) (E σ)) : tAsg (tMethS C m sp E ta t) (gName i) D σ H :=
  h H (Ex.refl H) _ fun H2 e2 => ⟨p, dx, fs, rfl, e2 _ _ hp, l, ha H2 e2 _ fun H3 e3 => k H3 (e2.trans e3)⟩
theorem s_asgMKS {gV : List V → List V → List V} (h : Ev ta σ H (.ref p)) (hp : H p = some (.ins C dx fs)) (l : fs.lookup m = none) (ha : EvA tk σ H zs) (k : ∀ H1, Ex H H1 → sp (gV [.ref p] zs) H1 (fun v H2 => D.nx (σ.set i (some v)) H2) (E σ)) : tAsg (tMethKS C m sp gV E ta tk) (gName i) D σ H :=
  h H (Ex.refl H) _ fun H2 e2 => ⟨p, dx, fs, rfl, e2 _ _ hp, l, ha H2 e2 _ fun H3 e3 => k H3 (e2.trans e3)⟩
theorem s_methS (h : Ev ta σ H (.ref p)) (hp : H p = some (.ins C dx fs)) (l : fs.lookup m = none) (ha : EvA t σ H vs) (k : ∀ H1, Ex H H1 → sp (.ref p :: vs) H1 (fun _ H2 => D.nx σ H2) (E σ)) : tDrop (tMethS C m sp E ta t) D σ H :=
  h H (Ex.refl H) _ fun H2 e2 => ⟨p, dx, fs, rfl, e2 _ _ hp, l, ha H2 e2 _ fun H3 e3 => k H3 (e2.trans e3)⟩
theorem rv_addS {x y : Str} (h : x.length + y.length ≤ 100000) : RV (fun x y H Q => ∃ i j, x = V.str i ∧ y = V.str j ∧ i.length + j.length ≤ sizeLine ∧ Q (.str (i ++ j)) H) (.str x) (.str y) H (.str (x ++ y)) := fun H1 e Q q =>
  ⟨x, y, rfl, rfl, sz_of h, q H1 (Ex.refl H1)⟩
theorem ev_strI {i : Int} (h : Ev te σ H (.int i)) (hz : i.natAbs.log2 < 1920) : Ev (tCB (fun xs H Q => ∃ i, xs = [V.int i] ∧ i.natAbs.log2 < 1920 ∧ Q (.str (toString i)) H) (tCons te tNil)) σ H (.str (toString i)) := fun H1 e Q q =>
  h H1 e _ fun H2 e2 => ⟨i, rfl, hz, q H2 e2⟩
theorem str_len {i : Int} (h : i.natAbs.log2 < 1900) : (toString i : Str).length ≤ 1901 := by
  have := shown_le (k := 1900) (ns := [i]) (by decide) (fun n hn => by rw [List.mem_singleton.mp hn]; exact h) (toString i : Str) (by
    rw [shownAll_ints]
    exact List.mem_singleton.mpr rfl)
  exact this
/-- xs.pop() -/
theorem s_pop {l : Addr} {xs : List V} {y : V} (h : Ev ta σ H (.ref l)) (hl : H l = some (.lst (xs ++ [y]))) (k : ∀ H1, Ex H H1 → D.nx σ (upd H1 l (.lst xs))) : tDrop (tBM0 K "list" rPop ta) D σ H :=
  h H (Ex.refl H) _ fun H2 e2 => ⟨.inl ⟨rfl, xs ++ [y], sq_of (e2 _ _ hl)⟩, l, xs ++ [y], y, rfl, rfl, e2 _ _ hl, by simp, by rw [List.dropLast_concat]; exact k H2 e2⟩
theorem q_pop {l : Addr} {xs : List V} {y : V} (h : Ev ta σ H (.ref l)) (hl : H l = some (.lst (xs ++ [y]))) (k : ∀ H1, Ex H H1 → tz D σ (upd H1 l (.lst xs))) : tSeq (tDrop (tBM0 K "list" rPop ta)) tz D σ H :=
  s_pop (D := { D with nx := tz D }) h hl k
end
end Bk
namespace Bk
open PySem PySem.Spec PyProof.Rows L2 Evl
/-! ### values of other kinds -/
/-- a value that is no integer: None, a truth, a text, a list, a tuple, a dict -/
def OddV (H : Hp) (x : V) : Prop := x = .non ∨ (∃ b, x = .bl b) ∨ (∃ s, x = .str s) ∨ (∃ a xs, x = .ref a ∧ H a = some (.lst xs)) ∨ (∃ a xs, x = .ref a ∧ H a = some (.tup xs)) ∨ (∃ a kvs, x = .ref a ∧ H a = some (.dK kvs))
theorem OddV.ex {H H' : Hp} {x : V} (h : OddV H x) (e : Ex H H') : OddV H' x := by
  rcases h with h | h | h | ⟨a, xs, h, g⟩ | ⟨a, xs, h, g⟩ | ⟨a, xs, h, g⟩
  · exact .inl h
  · exact .inr (.inl h)
  · exact .inr (.inr (.inl h))
  · exact .inr (.inr (.inr (.inl ⟨a, xs, h, e _ _ g⟩)))
  · exact .inr (.inr (.inr (.inr (.inl ⟨a, xs, h, e _ _ g⟩))))
  · exact .inr (.inr (.inr (.inr (.inr ⟨a, xs, h, e _ _ g⟩))))
theorem kb_none_int : kitB "NoneType" "int" = some false := by decide +kernel
theorem kb_bool_int : kitB "bool" "int" = some true := by decide +kernel
theorem kb_bool_bool : kitB "bool" "bool" = some true := by decide +kernel
theorem kb_str_int : kitB "str" "int" = some false := by decide +kernel
theorem kb_list_int : kitB "list" "int" = some false := by decide +kernel
theorem kb_tuple_int : kitB "tuple" "int" = some false := by decide +kernel
theorem kb_dict_int : kitB "dict" "int" = some false := by decide +kernel
section
variable {K : PySem.W.Frag} {σ : L2.St} {H : Hp} {ta tb te tl : TE} {t tr : TA} {D : Ends} {tu tz : TS} {v : V} {P : V → Hp → Prop} {PL : List V → Hp → Prop} {n : Nat}
/-- isinstance(x, int) and not isinstance(x, bool), of a value of another kind -/
theorem ev_odd {x : V} (h : Ev ta σ H x) (h2 : Ev tb σ H x) (o : OddV H x) : Ev (tAndV (tCB (rIsi K) (tCons ta (tCons (tC (.ty "int")) tNil))) (tNotV (tCB (rIsi K) (tCons tb (tCons (tC (.ty "bool")) tNil))))) σ H (.bl false) := by
  rcases o with rfl | ⟨b, rfl⟩ | ⟨s, rfl⟩ | ⟨a, xs, rfl, g⟩ | ⟨a, xs, rfl, g⟩ | ⟨a, kvs, rfl, g⟩
  · exact ev_andV (a := false) (b := false) (ev_isi h (fun _ _ => .base .non) kb_none_int) (fun h => nomatch h)
  · exact ev_andV (a := true) (b := false) (ev_isi h (fun _ _ => .base (.bl b)) kb_bool_int) fun _ => ev_notV (ev_isi h2 (fun _ _ => .base (.bl b)) kb_bool_bool)
  · exact ev_andV (a := false) (b := false) (ev_isi h (fun _ _ => .base (.str s)) kb_str_int) (fun h => nomatch h)
  · exact ev_andV (a := false) (b := false) (ev_isi h (fun _ e => .base (.lst (e _ _ g))) kb_list_int) (fun h => nomatch h)
  · exact ev_andV (a := false) (b := false) (ev_isi h (fun _ e => .base (.tup (e _ _ g))) kb_tuple_int) (fun h => nomatch h)
  · exact ev_andV (a := false) (b := false) (ev_isi h (fun _ e => .base (.dK (e _ _ g))) kb_dict_int) (fun h => nomatch h)
theorem ep_V (h : Ev te σ H v) (k : ∀ H1, Ex H H1 → P v H1) : EvP te σ H P := fun H1 e Q q => h H1 e _ fun H2 e2 => q v H2 e2 (k H2 (e.trans e2))
theorem ep_D (k : ∀ p H1, H1 p = some (.dK []) → P (.ref p) H1) : EvP tDNewK σ H P := fun H1 e Q q p hp => q (.ref p) _ (Ex.new hp) (k p _ upd_same)
theorem ed_V {d : PyData} (h : Ev te σ H v) (hd : ∀ H1, Dp K H1 v d) : EvD K te σ H d := ep_V h fun H1 _ => hd H1
theorem sho_bool (b : Bool) : Sho (.bool b) := by cases b <;> exact ⟨rfl, rfl, by decide, by rw [sizeLine_eq]; decide⟩
/-- arguments, with what is known of them -/
def EvAP (t : TA) (σ : L2.St) (H : Hp) (P : List V → Hp → Prop) : Prop := ∀ H1, Ex H H1 → ∀ Q : List V → Hp → Prop, (∀ vs H2, Ex H1 H2 → P vs H2 → Q vs H2) → t σ H1 Q
def AllP (P : V → Hp → Prop) (n : Nat) (vs : List V) (H : Hp) : Prop := vs.length = n ∧ ∀ v ∈ vs, P v H
theorem ap_nil : EvAP tNil σ H (AllP P 0) := fun H1 e Q q => q [] H1 (Ex.refl H1) ⟨rfl, fun _ h => nomatch h⟩
theorem ap_cons (mono : ∀ v H1 H2, Ex H1 H2 → P v H1 → P v H2) (h : EvP te σ H P) (hr : EvAP tr σ H (AllP P n)) : EvAP (tCons te tr) σ H (AllP P (n + 1)) := fun H1 e Q q =>
  h H1 e _ fun x H2 e2 px => hr H2 (e.trans e2) _ fun xs H3 e3 ⟨l, pxs⟩ => q (x :: xs) H3 (e2.trans e3) ⟨by rw [List.length_cons, l], fun v hv => by
    rcases List.mem_cons.mp hv with rfl | hv
    · exact mono _ _ _ e3 px
    · exact pxs v hv⟩
/-- a new list, with what is known of its items -/
def EvLP (te : TE) (σ : L2.St) (H : Hp) (P : List V → Hp → Prop) : Prop := ∀ H1, Ex H H1 → ∀ Q : VK, (∀ p xs H2, H1 p = none → Ex H1 H2 → H2 p = some (.lst xs) → P xs H2 → Q (.ref p) H2) → te σ H1 Q
theorem el_lstP (mono : ∀ v H1 H2, Ex H1 H2 → P v H1 → P v H2) (h : EvAP t σ H (AllP P n)) (hn : n ≤ 100000) : EvLP (tLst t) σ H (AllP P n) := fun H1 e Q q =>
  h H1 e _ fun xs H2 e2 ⟨l, px⟩ => ⟨sz_of (by omega), fun p hp => q p xs _ (fresh_back e2 hp) (e2.trans (Ex.new hp)) upd_same ⟨l, fun v hv => mono _ _ _ (Ex.new hp) (px v hv)⟩⟩
theorem s_forLP {j : Nat} (h : EvLP tl σ H PL) (Pv : Addr → List V → Nat → L2.St → Hp → Prop) (h0 : ∀ p xs H1, H p = none → Ex H H1 → H1 p = some (.lst xs) → PL xs H1 → Pv p xs 0 σ H1)
    (hl : ∀ p xs i σ' H', i ≤ xs.length → Pv p xs i σ' H' → SqL K H' p xs)
    (hs : ∀ p xs i x σ' H', xs[i]? = some x → Pv p xs i σ' H' → tu { D with nx := Pv p xs (i + 1), ct := Pv p xs (i + 1), bk := D.nx } (σ'.set j (some x)) H') (hd : ∀ p xs σ' H', Pv p xs xs.length σ' H' → D.nx σ' H') : tFor (iList K tl) (gName j) tu D σ H :=
  h H (Ex.refl H) _ fun p xs H1 hp e h1 px => ⟨p, rfl, ⟨xs, sq_of h1⟩, for_list (Pv p xs) (h0 p xs H1 hp e h1 px) (hl p xs) (fun i x σ' H' hx k => hs p xs i x σ' H' hx k) (hd p xs)⟩
theorem q_forLP {j : Nat} (h : EvLP tl σ H PL) (Pv : Addr → List V → Nat → L2.St → Hp → Prop) (h0 : ∀ p xs H1, H p = none → Ex H H1 → H1 p = some (.lst xs) → PL xs H1 → Pv p xs 0 σ H1)
    (hl : ∀ p xs i σ' H', i ≤ xs.length → Pv p xs i σ' H' → SqL K H' p xs)
    (hs : ∀ p xs i x σ' H', xs[i]? = some x → Pv p xs i σ' H' → tu { D with nx := Pv p xs (i + 1), ct := Pv p xs (i + 1), bk := tz D } (σ'.set j (some x)) H') (hd : ∀ p xs σ' H', Pv p xs xs.length σ' H' → tz D σ' H') : tSeq (tFor (iList K tl) (gName j) tu) tz D σ H :=
  s_forLP (D := { D with nx := tz D }) h Pv h0 hl hs hd
theorem oddmono : ∀ (v : V) (H1 H2 : Hp), Ex H1 H2 → OddV H1 v → OddV H2 v := fun _ _ _ e h => h.ex e
theorem eo_V (h : Ev te σ H v) (k : v = .non ∨ (∃ b, v = .bl b) ∨ (∃ s, v = .str s)) : EvP te σ H (fun v H1 => OddV H1 v) := ep_V h fun H1 _ => by
  rcases k with k | k | k
  · exact .inl k
  · exact .inr (.inl k)
  · exact .inr (.inr (.inl k))
theorem eo_L {xs : List V} (h : EvL te σ H xs) : EvP te σ H (fun v H1 => OddV H1 v) := ep_L h fun p H1 H2 _ _ _ g => .inr (.inr (.inr (.inl ⟨p, xs, rfl, g⟩)))
theorem eo_U {xs : List V} (h : EvU te σ H xs) : EvP te σ H (fun v H1 => OddV H1 v) := ep_U h fun p H1 H2 _ _ _ g => .inr (.inr (.inr (.inr (.inl ⟨p, xs, rfl, g⟩))))
theorem eo_D : EvP tDNewK σ H (fun v H1 => OddV H1 v) := ep_D fun p H1 g => .inr (.inr (.inr (.inr (.inr ⟨p, [], rfl, g⟩))))
end
end Bk
namespace Bk
open PySem PySem.Spec PyProof.Rows L2 Evl
/-! ### counting and finding flat items -/
def rCountF (K : PySem.W.Frag) : V → List V → Hp → VK → Prop := fun x xs H Q => ∃ (a : Addr) (ys : List V) (y : V), x = V.ref a ∧ xs = [y] ∧ SqL K H a ys ∧ flatV y = true ∧ ys.all flatV = true ∧ Q (.int ((ys.countP fun z => eqV z y : Nat) : Int)) H
theorem countP_flat {y : V} {ys : List V} {us : List Value} (h : Vals ys us) (f : ys.all flatV = true) : us.countP (eqU y) = ys.countP fun z => eqV z y := by
  induction h with
  | nil => rfl
  | cons r rs ih =>
    rw [List.all_cons, Bool.and_eq_true] at f
    rw [List.countP_cons, List.countP_cons, ih f.2, eqU_of r f.1]
theorem mt_countF {X : Cx} {K : PySem.W.Frag} (hK : X.K = K) : MtR X "list.count" (rCountF K) := by
  subst hK
  intro pins s σ H x xs v us Q I rx rxs h
  obtain ⟨a, ys, y, rfl, rfl, hs, fy, fys, q⟩ := h
  cases rx
  cases rxs with
  | cons ry rt =>
    rename_i uy ut
    cases rt
    obtain ⟨its, rv, ⟨⟨cls, dd, data, sl⟩, n, ho, hc, hdn, hd⟩, hlen⟩ := I.list hs
    simp only at hc hd
    subst hc hd
    refine call_meets PySem.F.slot_list_count ⟨_, ho, rfl⟩ PySem.F.entry_list_count (PySem.F.args_list_count_2 _ _) (SeqAt.list_countAt a its.toArray n dd sl uy (eqU y)) ⟨ho, fun u' hu' => mem_eqAt ry fy rv fys u' (by simpa using hu'), ?_⟩
    rw [show its.toArray.toList = its from rfl, countP_flat rv fys]
    exact ⟨.int _, H, I.tok _, ⟨_, rfl⟩, q⟩
theorem mt_indexK {X : Cx} {K : PySem.W.Frag} (hK : X.K = K) : MtR X "list.index" (rIndex K) := by
  subst hK
  exact mt_index
section
variable {K : PySem.W.Frag} {σ : L2.St} {H : Hp} {ta tb : TE}
def vb (bs : List Bool) : List V := bs.map .bl
theorem vb_flat : ∀ bs : List Bool, (vb bs).all flatV = true
  | [] => rfl
  | _ :: r => by
    show (flatV _ && (vb r).all flatV) = true
    rw [vb_flat r]
    rfl
theorem vb_count : ∀ bs : List Bool, ((vb bs).countP fun z => eqV z (.bl true)) = bs.count true
  | [] => rfl
  | b :: r => by
    show ((V.bl b :: vb r).countP fun z => eqV z (.bl true)) = _
    rw [List.countP_cons, List.count_cons, vb_count r]
    cases b <;> rfl
theorem ev_countB {l : Addr} {bs : List Bool} (ha : Ev ta σ H (.ref l)) (h : H l = some (.lst (vb bs))) (hb : Ev tb σ H (.bl true)) : Ev (tBM K "list" (rCountF K) ta (tCons tb tNil)) σ H (.int ((bs.count true : Nat) : Int)) := fun H1 e Q q =>
  ha H1 e _ fun H2 e2 => ⟨Or.inl ⟨rfl, _, sq_of ((e.trans e2) _ _ h)⟩, hb H2 (e.trans e2) _ fun H3 e3 => ⟨l, vb bs, .bl true, rfl, rfl, sq_of (((e.trans e2).trans e3) _ _ h), rfl, vb_flat bs, by
    rw [vb_count]
    exact q H3 (e2.trans e3)⟩⟩
theorem ev_indexB {l : Addr} {bs : List Bool} {j : Nat} (ha : Ev ta σ H (.ref l)) (h : H l = some (.lst (vb bs))) (hb : Ev tb σ H (.bl true)) (hj : bs[j]? = some true) (hn : ∀ m, m < j → bs[m]? = some false) : Ev (tBM K "list" (rIndex K) ta (tCons tb tNil)) σ H (.int (j : Nat)) := fun H1 e Q q =>
  ha H1 e _ fun H2 e2 => ⟨Or.inl ⟨rfl, _, sq_of ((e.trans e2) _ _ h)⟩, hb H2 (e.trans e2) _ fun H3 e3 => ⟨l, vb bs, .bl true, j, .bl true, rfl, rfl, sq_of (((e.trans e2).trans e3) _ _ h), rfl, vb_flat bs, by
    show (bs.map V.bl)[j]? = _
    rw [List.getElem?_map, hj]
    rfl, rfl, fun m z hm hz => by
    have hz : (bs.map V.bl)[m]? = some z := hz
    rw [List.getElem?_map, hn m hm] at hz
    cases hz
    rfl, q H3 (e2.trans e3)⟩⟩
end
section
variable {K : PySem.W.Frag} {σ : L2.St} {H : Hp} {ta tb te tl : TE} {t : TA} {D : Ends} {tu tz : TS} {P : V → Hp → Prop} {PL : List V → Hp → Prop} {n : Nat}
/-- [(y, x, z) for x in a new list] -/
theorem el_lcTup {j : Nat} {vs : List Nat} {y z : V} (mono : ∀ v H1 H2, Ex H1 H2 → P v H1 → P v H2) (h : EvLP tl σ H (AllP P n)) (hn : n ≤ 40000) (hw : ∀ x, wipe ((wipe σ vs).set j (some x)) vs = wipe σ vs) (he : ∀ x H1, Ex H H1 → EvU te ((wipe σ vs).set j (some x)) H1 [y, x, z]) :
    EvLP (tLc (iList K tl) (gName j) tYes te vs) σ H (fun ys H2 => ys.length = n ∧ ∀ v ∈ ys, ∃ (t : Addr) (x : V), v = .ref t ∧ H2 t = some (.tup [y, x, z]) ∧ P x H2) := fun H0 e Q q =>
  h H0 e _ fun a xs H1 ha e1 hx ⟨hl, px⟩ => ⟨a, rfl, ⟨xs, sq_of hx⟩, fun Dl hD =>
    lc_list (xs := xs) (fun i H' => Ex H1 H' ∧ ∃ acc : List V, H' Dl = some (.lst acc) ∧ acc.length = i ∧ ∀ v ∈ acc, ∃ (t : Addr) (x : V), v = .ref t ∧ t ≠ Dl ∧ H' t = some (.tup [y, x, z]) ∧ x ∈ xs) ⟨Ex.new hD, [], upd_same, rfl, fun _ h => nomatch h⟩ (fun i H' _ p => sq_of (p.1 _ _ hx)) (fun i x H' hi p => ⟨hw x, by
      obtain ⟨p1, acc, g, la, pa⟩ := p
      have hi' := (List.getElem?_eq_some_iff.mp hi).1
      refine et_yes (σ := (wipe σ vs).set j (some x)) (H := H') H' (Ex.refl H') _ fun H3 e3 => iteT ?_
      refine he x H3 (((e.trans e1).trans p1).trans e3) H3 (Ex.refl H3) _ fun t H4 ht e4 g4 => ?_
      have nt : t ≠ Dl := fun q => by
        rw [q, e3 _ _ g] at ht
        cases ht
      have e34 := e3.trans e4
      refine ⟨acc, e34 _ _ g, sz_lt (by omega), (p1.trans e34).mut hD, acc ++ [.ref t], upd_same, by rw [List.length_append, la]; rfl, fun v hv => ?_⟩
      rcases List.mem_append.mp hv with hv | hv
      · obtain ⟨t', x', ev, nt', gt', mx⟩ := pa v hv
        exact ⟨t', x', ev, nt', by rw [upd_ne nt']; exact e34 _ _ gt', mx⟩
      · rw [List.mem_singleton.mp hv]
        exact ⟨t, x, rfl, nt, by rw [upd_ne nt]; exact g4, List.mem_of_getElem? hi⟩⟩)
    (fun H' ⟨p1, acc, g, la, pa⟩ => q Dl acc H' (fresh_back e1 hD) (e1.trans p1) g ⟨by omega, fun v hv => by
      obtain ⟨t', x', ev, nt', gt', mx⟩ := pa v hv
      exact ⟨t', x', ev, gt', mono _ _ _ p1 (px x' mx)⟩⟩)⟩
theorem elp_mono {PL' : List V → Hp → Prop} (h : EvLP te σ H PL) (m : ∀ xs H1, Ex H H1 → PL xs H1 → PL' xs H1) : EvLP te σ H PL' := fun H1 e Q q => h H1 e Q fun p xs H2 hp e2 g pl => q p xs H2 hp e2 g (m xs H2 (e.trans e2) pl)
theorem el_catP {p : Addr} {xs : List V} (ha : Ev ta σ H (.ref p)) (hp : H p = some (.lst xs)) (h : EvLP tb σ H PL) (hz : ∀ ys H1, PL ys H1 → xs.length + ys.length ≤ 100000) (mono : ∀ ys H1 H2, Ex H1 H2 → PL ys H1 → PL ys H2) : EvLP (tOp rCat ta tb) σ H (fun zs H2 => ∃ ys, zs = xs ++ ys ∧ PL ys H2) := fun H1 e Q q =>
  ha H1 e _ fun H2 e2 => h H2 (e.trans e2) _ fun r ys H3 hr e3 g3 pl => ⟨p, r, xs, ys, rfl, rfl, ((e.trans e2).trans e3) _ _ hp, g3, sz_of (hz ys H3 pl), fun l hl => q l _ _ (fresh_back (e2.trans e3) hl) ((e2.trans e3).trans (Ex.new hl)) upd_same ⟨ys, rfl, mono _ _ _ (Ex.new hl) pl⟩⟩
theorem s_asgLP {i : Nat} (h : EvLP te σ H PL) (k : ∀ p xs H1, H p = none → Ex H H1 → H1 p = some (.lst xs) → PL xs H1 → D.nx (σ.set i (some (.ref p))) H1) : tAsg te (gName i) D σ H := h H (Ex.refl H) _ fun p xs H1 hp e g pl => k p xs H1 hp e g pl
theorem q_asgLP {i : Nat} (h : EvLP te σ H PL) (k : ∀ p xs H1, H p = none → Ex H H1 → H1 p = some (.lst xs) → PL xs H1 → tz D (σ.set i (some (.ref p))) H1) : tSeq (tAsg te (gName i)) tz D σ H := s_asgLP (D := { D with nx := tz D }) h k
/-- for x, y, z in a list -/
theorem q_for3 {a : Addr} {xs : List V} {i j l : Nat} (h : Ev tl σ H (.ref a)) (hx : SqL K H a xs) (Pv : Nat → L2.St → Hp → Prop) (h0 : ∀ H1, Ex H H1 → Pv 0 σ H1) (hl : ∀ n σ' H', n ≤ xs.length → Pv n σ' H' → SqL K H' a xs)
    (hs : ∀ n v σ' H', xs[n]? = some v → Pv n σ' H' → ∃ t x y z, v = .ref t ∧ SqT K H' t [x, y, z] ∧ tu { D with nx := Pv (n + 1), ct := Pv (n + 1), bk := tz D } (((σ'.set i (some x)).set j (some y)).set l (some z)) H') (hd : ∀ σ' H', Pv xs.length σ' H' → tz D σ' H') :
    tSeq (tFor (iList K tl) (gTup K 3 (gCons (gName i) (gCons (gName j) (gCons (gName l) gNil)))) tu) tz D σ H :=
  h H (Ex.refl H) _ fun H1 e => ⟨a, rfl, ⟨xs, ex_l e hx⟩, for_list (D := { D with nx := tz D }) Pv (h0 H1 e) hl (fun n v σ' H' hv p => by
    obtain ⟨t, x, y, z, rfl, ht, q⟩ := hs n v σ' H' hv p
    exact ⟨t, _, rfl, ht, rfl, _, _, rfl, _, _, rfl, _, _, rfl, rfl, q⟩) hd⟩
theorem s_callS {sp : Sp} {E : L2.St → XK} {vs : List V} (ha : EvA t σ H vs) (k : ∀ H1, Ex H H1 → sp vs H1 (fun _ H2 => D.nx σ H2) (E σ)) : tDrop (tCallS sp E t) D σ H := ha H (Ex.refl H) _ fun H1 e1 => k H1 e1
end
end Bk
namespace Bk
open PySem PySem.Spec PyProof.Rows L2 Evl
/-! ### a tuple that the program holds -/
def FrT (K : PySem.W.Frag) (a : Addr) (xs : List V) : Prop := ∃ (o : Obj) (its : Array Value) (n : Nat), K.lookup a = some o ∧ o.cls = .type "tuple" ∧ o.data = .seq its n ∧ its.size ≤ sizeLine ∧ Vals xs its.toList
theorem FrT.sq {K : PySem.W.Frag} {a : Addr} {xs : List V} (h : FrT K a xs) {H : Hp} : SqT K H a xs := .inr h
theorem frt3 {K : PySem.W.Frag} {a : Addr} {od : Option Addr} {n : Nat} {sl : Array (Option Value)} {u1 u2 u3 : Value} {x1 x2 x3 : V} (h : K.lookup a = some ⟨.type "tuple", od, .seq #[u1, u2, u3] n, sl⟩) (r1 : RelV x1 u1) (r2 : RelV x2 u2) (r3 : RelV x3 u3) : FrT K a [x1, x2, x3] :=
  ⟨_, _, _, h, rfl, rfl, by
    rw [sizeLine_eq]
    show 3 ≤ _
    decide, .cons r1 (.cons r2 (.cons r3 .nil))⟩
theorem cr_anyK {X : Cx} {K : PySem.W.Frag} (h : X.K = K) (hc : X.calm = true) : CallR X (.builtin "any") (rAny K) := by
  subst h
  exact cr_any hc
theorem kb_str_str : kitB "str" "str" = some true := by decide +kernel
section
variable {K : PySem.W.Frag} {σ : L2.St} {H : Hp} {ta te tl : TE} {D : Ends} {tz : TS}
theorem ev_anyN {bs : List Bool} (ha : EvL ta σ H (bs.map V.bl)) : Ev (tCB (rAny K) (tCons ta tNil)) σ H (.bl (bs.any id)) := fun H1 e Q q =>
  ha H1 e _ fun p H2 hp2 e2 h2 => ⟨p, bs, rfl, sq_of h2, q H2 e2⟩
/-- x, y, z = a tuple -/
theorem q_tup3 {i j l : Nat} {t : Addr} {x y z : V} (h : Ev te σ H (.ref t)) (ht : SqT K H t [x, y, z]) (k : ∀ H1, Ex H H1 → tz D (((σ.set i (some x)).set j (some y)).set l (some z)) H1) : tSeq (tAsg te (gTup K 3 (gCons (gName i) (gCons (gName j) (gCons (gName l) gNil))))) tz D σ H :=
  h H (Ex.refl H) _ fun H1 e1 => ⟨t, _, rfl, ex_t e1 ht, rfl, _, _, rfl, _, _, rfl, _, _, rfl, rfl, k H1 e1⟩
/-- a comprehension over a tuple of triples -/
theorem el_lcT3 {a : Addr} {xs : List V} {i j l : Nat} {vs : List Nat} (v : Nat → V) (its : List (V × V × V)) (h : Ev tl σ H (.ref a)) (hx : SqT K H a xs) (hz : xs.length ≤ 40000) (h3 : ∀ (n : Nat) x, xs[n]? = some x → ∃ t p, x = .ref t ∧ its[n]? = some p ∧ SqT K H t [p.1, p.2.1, p.2.2])
    (hw : ∀ x y z, wipe ((((wipe σ vs).set i (some x)).set j (some y)).set l (some z)) vs = wipe σ vs) (he : ∀ (n : Nat) p H1, Ex H H1 → its[n]? = some p → Ev te ((((wipe σ vs).set i (some p.1)).set j (some p.2.1)).set l (some p.2.2)) H1 (v n)) :
    EvL (tLc (iTup K tl) (gTup K 3 (gCons (gName i) (gCons (gName j) (gCons (gName l) gNil)))) tYes te vs) σ H (given xs.length (fun _ => true) v) := fun H0 e Q q => h H0 e _ fun H1 e1 => ⟨a, rfl, ⟨xs, ex_t (e.trans e1) hx⟩, fun Dl hD =>
  lc_tup (xs := xs) (Cw H1 (fun _ => true) v Dl) ⟨hD, Ex.new hD, upd_same⟩ (fun i H' _ p => ex_t ((e.trans e1).trans p.2.1) hx) (fun n x H' hi p => by
    have hl := (List.getElem?_eq_some_iff.mp hi).1
    obtain ⟨t, w, rfl, hp, ht⟩ := h3 n x hi
    exact ⟨t, _, rfl, ex_t ((e.trans e1).trans p.2.1) ht, rfl, _, _, rfl, _, _, rfl, _, _, rfl, rfl, hw _ _ _, cw_turn p (by omega) (fun H3 _ Q q => q H3 (Ex.refl H3)) fun _ => he n w H1 (e.trans e1) hp⟩)
    (fun H' p => q Dl H' (fresh_back e1 p.1) (e1.trans p.2.1) p.2.2)⟩
end
end Bk
namespace Bk
open PySem PySem.Spec PyProof.Rows L2 Evl SX
/-! ### texts: rules and readings -/
def rJoin (K : PySem.W.Frag) : V → List V → Hp → VK → Prop := fun x xs H Q => ∃ a p, ∃ ys : List Str, x = .str a ∧ xs = [.ref p] ∧ (SqL K H p (ys.map V.str) ∨ SqT K H p (ys.map V.str)) ∧ (ys.map (·.length)).sum + ys.length * a.length ≤ 16777216 ∧ Q (.str (Txt.join a ys)) H
def rSplit : V → List V → Hp → VK → Prop := fun x xs H Q => ∃ a b, x = .str a ∧ xs = [.str b] ∧ (b.length == 0) = false ∧ a.length + 2 ≤ sizeLine ∧ rNewStrs (Txt.split a b) H Q
def rT0 (g : Str → V) : V → List V → Hp → VK → Prop := fun x xs H Q => ∃ a, x = .str a ∧ xs = [] ∧ True ∧ Q (g a) H
def rT1 (g : Str → Str → V) : V → List V → Hp → VK → Prop := fun x xs H Q => ∃ a b, x = .str a ∧ xs = [.str b] ∧ Q (g a b) H
section
variable {X : Cx}
theorem mt_joinK {K : PySem.W.Frag} (h : X.K = K) : MtR X "str.join" (rJoin K) := by
  subst h
  exact mt_join
theorem mt_splitR : MtR X "str.split" rSplit := mt_split
theorem mt_isdigit0 : MtR X "str.isdigit" (rT0 fun a => .bl (Txt.isdigit a)) := mt_isdigit
theorem mt_isascii0 : MtR X "str.isascii" (rT0 fun a => .bl (Txt.isascii a)) := mt_isascii
theorem mt_startswith1 : MtR X "str.startswith" (rT1 fun a b => .bl (Txt.startswith a b)) := mt_startswith
theorem mt_endswith1 : MtR X "str.endswith" (rT1 fun a b => .bl (Txt.endswith a b)) := mt_endswith
end
section
variable {K : PySem.W.Frag} {σ : L2.St} {H : Hp} {ta tb te : TE} {a b : Str}
theorem ev_t0 {g : Str → V} (h : Ev ta σ H (.str a)) : Ev (tM0 (rT0 g) ta) σ H (g a) := fun H1 e Q q => h H1 e _ fun H2 e2 => ⟨⟨a, rfl⟩, a, rfl, rfl, trivial, q H2 e2⟩
theorem ev_t1 {g : Str → Str → V} (h : Ev ta σ H (.str a)) (h' : Ev tb σ H (.str b)) : Ev (tM1 (rT1 g) ta tb) σ H (g a b) := fun H1 e Q q => h H1 e _ fun H2 e2 => ⟨⟨a, rfl⟩, h' H2 (e.trans e2) _ fun H3 e3 => ⟨a, b, rfl, rfl, q H3 (e2.trans e3)⟩⟩
theorem ev_joinN {ys : List Str} (h : Ev ta σ H (.str a)) (h' : EvL tb σ H (ys.map V.str)) (hz : (ys.map (·.length)).sum + ys.length * a.length ≤ 16777216) : Ev (tM1 (rJoin K) ta tb) σ H (.str (Txt.join a ys)) := fun H1 e Q q =>
  h H1 e _ fun H2 e2 => ⟨⟨a, rfl⟩, h' H2 (e.trans e2) _ fun p H3 _ e3 g => ⟨a, p, ys, rfl, rfl, .inl (sq_of g), hz, q H3 (e2.trans e3)⟩⟩
theorem ev_join {ys : List Str} {p : Addr} (h : Ev ta σ H (.str a)) (h' : Ev tb σ H (.ref p)) (g : SqL K H p (ys.map V.str)) (hz : (ys.map (·.length)).sum + ys.length * a.length ≤ 16777216) : Ev (tM1 (rJoin K) ta tb) σ H (.str (Txt.join a ys)) := fun H1 e Q q =>
  h H1 e _ fun H2 e2 => ⟨⟨a, rfl⟩, h' H2 (e.trans e2) _ fun H3 e3 => ⟨a, p, ys, rfl, rfl, .inl (ex_l ((e.trans e2).trans e3) g), hz, q H3 (e2.trans e3)⟩⟩
theorem el_split (h : Ev ta σ H (.str a)) (h' : Ev tb σ H (.str b)) (hb : (b.length == 0) = false) (hz : a.length + 2 ≤ sizeLine) : EvL (tM1 rSplit ta tb) σ H ((Txt.split a b).map V.str) := fun H1 e Q q =>
  h H1 e _ fun H2 e2 => ⟨⟨a, rfl⟩, h' H2 (e.trans e2) _ fun H3 e3 => ⟨a, b, rfl, rfl, hb, hz, fun p hp => q p _ (fresh_back (e2.trans e3) hp) ((e2.trans e3).trans (Ex.new hp)) upd_same⟩⟩
theorem ev_bits {i : Int} (h : Ev ta σ H (.int i)) : Ev (tBits ta) σ H (.int (Builtin.Int.intBits i : Nat)) := fun H1 e Q q => h H1 e _ fun H2 e2 => ⟨i, rfl, q H2 e2⟩
theorem ev_slS {tl th : TO} {z : Str} {lo hi : Option Int} (h : Ev te σ H (.str z)) (h1 : EvO tl σ H lo) (h2 : EvO th σ H hi) (hz : z.length ≤ sizeLine) : Ev (tSl L2.rSlS te tl th) σ H (.str (cutS z lo hi)) := fun H1 e Q q =>
  h H1 e _ fun H2 e2 => h1 H2 (e.trans e2) _ fun H3 e3 => h2 H3 ((e.trans e2).trans e3) _ fun H4 e4 => ⟨z, rfl, hz, q H4 ((e2.trans e3).trans e4)⟩
theorem ev_intS {n : Int} (h : Ev ta σ H (.str a)) (hn : PySem.intText? a = some n) (hl : a.length ≤ 640) : Ev (tCB (fun xs H Q => ∃ a n, xs = [V.str a] ∧ PySem.intText? a = some n ∧ a.length ≤ 640 ∧ Q (.int n) H) (tCons ta tNil)) σ H (.int n) := fun H1 e Q q =>
  h H1 e _ fun H2 e2 => ⟨a, n, rfl, hn, hl, q H2 e2⟩
theorem ev_lenS (h : Ev ta σ H (.str a)) (hz : a.length ≤ sizeLine) : Ev (tCB (fun xs H Q => ∃ z : Str, xs = [V.str z] ∧ z.length ≤ sizeLine ∧ Q (.int z.length) H) (tCons ta tNil)) σ H (.int (a.length : Int)) := fun H1 e Q q => h H1 e _ fun H2 e2 => ⟨a, rfl, hz, q H2 e2⟩
variable {D : Ends} {tu tz : TS}
theorem q_forNEn {xs : List V} {tl : TE} {i j : Nat} (h : EvL tl σ H xs) (Pv : Addr → Nat → L2.St → Hp → Prop) (h0 : ∀ p H1, H p = none → Ex H H1 → H1 p = some (.lst xs) → Pv p 0 σ H1) (hl : ∀ p n σ' H', n ≤ xs.length → Pv p n σ' H' → SqL K H' p xs)
    (hs : ∀ p n x σ' H', xs[n]? = some x → Pv p n σ' H' → ∀ H1, Ex H' H1 → tu { D with nx := Pv p (n + 1), ct := Pv p (n + 1), bk := tz D } ((σ'.set i (some (.int (n : Nat)))).set j (some x)) H1) (hd : ∀ p σ' H', Pv p xs.length σ' H' → tz D σ' H') :
    tSeq (tFor (iEnum K (tCons tl tNil)) (g2 K i j) tu) tz D σ H :=
  h H (Ex.refl H) _ fun p H1 hp e h1 => ⟨p, xs, rfl, sq_of h1, for_Ite (D := { D with nx := tz D }) (Pv p) (h0 p H1 hp e h1) (hl p) (hs p) (hd p)⟩
end
section
variable {σ : L2.St} {H : Hp} {D : Ends} {tu tz : TS}
theorem q_forR3G {ta : TA} {i : Nat} {lo j c : Int} (h : EvA ta σ H [.int lo, .int j, .int c]) (l0 : 0 ≤ lo) (l1 : lo ≤ 100000) (h0 : 0 ≤ j) (h1 : j ≤ 100000) (c0 : 0 < c) (c1 : c ≤ 100000) (Pv : Nat → L2.St → Hp → Prop) (hp0 : ∀ H1, Ex H H1 → Pv 0 σ H1)
    (hs : ∀ (k : Nat) σ' H', lo + (k : Int) * c < j → Pv k σ' H' → tu { D with nx := Pv (k + 1), ct := Pv (k + 1), bk := tz D } (σ'.set i (some (.int (lo + (k : Int) * c)))) H') (hd : ∀ (k : Nat) σ' H', j ≤ lo + (k : Int) * c → Pv k σ' H' → tz D σ' H') : tSeq (tFor (iRng3 ta) (gName i) tu) tz D σ H :=
  s_forR3G (D := { D with nx := tz D }) h l0 l1 h0 h1 c0 c1 Pv hp0 hs hd
end
/-! ### texts: mathematics -/
theorem asc_S (l : List Nat) : Txt.isascii (S l) = l.all fun c => decide (c < 128) := by
  show (S l).cps.all _ = _
  rw [← Array.all_toList]
theorem dig_one : ∀ c : Fin 128, Unicode.isDigit c.val = (decide (48 ≤ c.val) && decide (c.val ≤ 57)) := by decide +kernel
def dg (c : Nat) : Bool := decide (48 ≤ c) && decide (c ≤ 57)
theorem dig_S {l : List Nat} (h : (l.all fun c => decide (c < 128)) = true) : Txt.isdigit (S l) = (decide (0 < l.length) && l.all dg) := by
  have e : Txt.isdigit (S l) = (decide (0 < l.length) && l.all Unicode.isDigit) := by
    show (decide ((S l).length > 0) && (S l).cps.all Unicode.isDigit) = _
    rw [S_len, ← Array.all_toList]
  rw [e]
  congr 1
  induction l with
  | nil => rfl
  | cons c r ih =>
    rw [List.all_cons, Bool.and_eq_true] at h
    rw [List.all_cons, List.all_cons, dig_one ⟨c, of_decide_eq_true h.1⟩]
    show (dg c && _) = _
    congr 1
    have e2 : Txt.isdigit (S r) = (decide (0 < r.length) && r.all Unicode.isDigit) := by
      show (decide ((S r).length > 0) && (S r).cps.all Unicode.isDigit) = _
      rw [S_len, ← Array.all_toList]
    exact ih h.2 e2
theorem dg_asc {l : List Nat} (h : l.all dg = true) : (l.all fun c => decide (c < 128)) = true := by
  rw [List.all_eq_true] at h ⊢
  intro c hc
  have := h c hc
  unfold dg at this
  simp only [Bool.and_eq_true, decide_eq_true_eq] at this
  exact decide_eq_true (by omega)
theorem starts_S (l m : List Nat) : Txt.startswith (S l) (S m) = (l.take m.length == m) := by
  unfold Txt.startswith
  rw [PySem.StrLaws.subAt_eq, S_len, S_len]
  show (decide (0 + m.length ≤ l.length) && ((l.drop 0).take m.length == m)) = _
  rw [List.drop_zero, Nat.zero_add]
  by_cases h : m.length ≤ l.length
  · rw [decide_eq_true h, Bool.true_and]
  · rw [decide_eq_false h, Bool.false_and]
    cases e : (l.take m.length == m) with
    | false => rfl
    | true =>
      have e1 := congrArg List.length (eq_of_beq e)
      rw [List.length_take] at e1
      omega
/-- the number that stands in a text from 0 on -/
def natT (l : List Nat) : Option Nat := if l.all dg = true ∧ l ≠ [] ∧ (l.take 1 = [48] → l = [48]) then some (NumText.digitsVal l) else none
def wholeT (l : List Nat) : Option Int := if l.take 1 = [45] then (match natT (l.drop 1) with | some n => if n = 0 then none else some (-(n : Int)) | none => none) else (match natT l with | some n => some (n : Int) | none => none)
def numT (n : Int) : List Nat := if n < 0 then 45 :: TL.numL n.natAbs else TL.numL n.natAbs
theorem dg_num (n : Nat) : (TL.numL n).all dg = true := by
  rw [List.all_eq_true]
  intro c hc
  have := TL.numL_digits n c hc
  unfold dg
  simp only [Bool.and_eq_true, decide_eq_true_eq]
  exact this
theorem numL_head (n : Nat) (h : n ≠ 0) : ∃ c r, TL.numL n = c :: r ∧ 49 ≤ c := by
  induction n using Nat.strongRecOn with
  | _ n ih =>
    by_cases h1 : n < 10
    · rw [TL.numL_lt h1]
      exact ⟨48 + n, [], rfl, by omega⟩
    · rw [TL.numL_step (by omega)]
      obtain ⟨c, r, e, k⟩ := ih (n / 10) (by omega) (by omega)
      rw [e]
      exact ⟨c, r ++ [48 + n % 10], rfl, k⟩
theorem natT_num (n : Nat) : natT (TL.numL n) = some n := by
  have key : (TL.numL n).take 1 = [48] → TL.numL n = [48] := fun h => by
    by_cases h0 : n = 0
    · subst h0
      rw [TL.numL_lt (by decide)]
    · obtain ⟨c, r, e, k⟩ := numL_head n h0
      rw [e] at h
      injection h with h1
      omega
  unfold natT
  rw [if_pos ⟨dg_num n, TL.numL_ne n, key⟩, TL.numL_val]
theorem wholeT_num (n : Int) : wholeT (numT n) = some n := by
  unfold wholeT numT
  by_cases h : n < 0
  · rw [if_pos h, if_pos (show (45 :: TL.numL n.natAbs).take 1 = [45] from rfl)]
    show (match natT (TL.numL n.natAbs) with | some n => if n = 0 then none else some (-(n : Int)) | none => none) = some n
    rw [natT_num]
    show (if n.natAbs = 0 then none else some (-(n.natAbs : Int))) = some n
    rw [if_neg (by omega)]
    congr 1
    omega
  · rw [if_neg h, if_neg, natT_num]
    · show some ((n.natAbs : Nat) : Int) = some n
      congr 1
      omega
    · intro z
      cases e : TL.numL n.natAbs with
      | nil => exact TL.numL_ne _ e
      | cons c r =>
        rw [e] at z
        injection z with z1
        have := TL.numL_digits n.natAbs c (by rw [e]; exact List.mem_cons_self ..)
        omega
theorem str_num (n : Int) : (Str.ofString (toString n)) = S (numT n) := by
  refine TL.ext_tl ?_
  unfold numT
  by_cases h : n < 0
  · obtain ⟨m, rfl⟩ : ∃ m : Nat, n = Int.negSucc m := ⟨n.natAbs - 1, by omega⟩
    rw [if_pos h]
    show TL.tl (Str.ofString ("-" ++ toString (m + 1))) = 45 :: TL.numL (m + 1)
    rw [TL.tl_ofString, String.toList_append, List.map_append, ← TL.tl_num (m + 1), TL.tl_ofString]
    rfl
  · obtain ⟨m, rfl⟩ : ∃ m : Nat, n = m := ⟨n.toNat, by omega⟩
    rw [if_neg h]
    exact TL.tl_num m
theorem natT_val {l : List Nat} {n : Nat} (h : natT l = some n) (hl : l.length ≤ 4300) : PySem.intText? (S l) = some (n : Int) := by
  unfold natT at h
  split at h
  · rename_i c
    cases h
    refine int_S ?_ c.2.1 hl
    exact c.1
  · cases h
def optI : Option Int → V
  | none => .non
  | some n => .int n
def optN : Option Nat → V
  | none => .non
  | some n => .int (n : Int)
theorem cut_from (l : List Nat) (k : Nat) : cutS (S l) (some (k : Int)) none = S (l.drop k) := by
  unfold cutS
  rw [S_len, HT.sIx_nat, HT.sIx_none]
  refine TL.ext_tl ?_
  show (l.drop (min k l.length)).take (l.length - min k l.length) = l.drop k
  by_cases h : k ≤ l.length
  · rw [Nat.min_eq_left h]
    exact List.take_of_length_le (by rw [List.length_drop]; omega)
  · rw [Nat.min_eq_right (by omega), List.drop_length, List.take_nil, List.drop_eq_nil_of_le (by omega)]
theorem cut_both (l : List Nat) (j k : Nat) : cutS (S l) (some (j : Int)) (some (k : Int)) = S ((l.drop j).take (k - j)) := by
  unfold cutS
  rw [S_len, HT.sIx_nat, HT.sIx_nat]
  refine TL.ext_tl ?_
  show (l.drop (min j l.length)).take (min k l.length - min j l.length) = (l.drop j).take (k - j)
  by_cases h : j ≤ l.length
  · rw [Nat.min_eq_left h]
    by_cases h2 : k ≤ l.length
    · rw [Nat.min_eq_left h2]
    · rw [Nat.min_eq_right (show l.length ≤ k by omega), List.take_of_length_le (by rw [List.length_drop]; omega), List.take_of_length_le (by rw [List.length_drop]; omega)]
  · rw [Nat.min_eq_right (show l.length ≤ j by omega), List.drop_length, List.take_nil, List.drop_eq_nil_of_le (by omega), List.take_nil]
theorem numT_len {n : Int} {k : Nat} (hk : 0 < k) (h0 : -(10 ^ k) < n) (h1 : n < 10 ^ k) : (numT n).length ≤ k + 1 := by
  have hn : n.natAbs < 10 ^ k := by
    have e : ((10 : Int) ^ k) = ((10 ^ k : Nat) : Int) := by simp
    rw [e] at h0 h1
    omega
  have := TL.numL_len hk hn
  unfold numT
  split
  · rw [List.length_cons]
    omega
  · omega
theorem slen (l : List Nat) (h : l.length ≤ 100000) : (S l).length ≤ sizeLine := by
  rw [S_len]
  exact sz_of h
/-- the texts of numbers, with a comma and a blank between -/
def rowT (ns : List Int) : List Nat := TL.joinL [44, 32] (ns.map numT)
theorem numT_free (n : Int) : ∀ c ∈ numT n, c = 45 ∨ (48 ≤ c ∧ c ≤ 57) := by
  intro c hc
  unfold numT at hc
  split at hc
  · rcases List.mem_cons.mp hc with h | h
    · exact .inl h
    · exact .inr (TL.numL_digits _ c h)
  · exact .inr (TL.numL_digits _ c hc)
theorem joinL_len (sep : List Nat) : ∀ ps : List (List Nat), (TL.joinL sep ps).length ≤ (ps.map (·.length)).sum + ps.length * sep.length
  | [] => by simp [TL.joinL]
  | [p] => by simp [TL.joinL]
  | p :: q :: r => by
    show (p ++ (sep ++ TL.joinL sep (q :: r))).length ≤ _
    have ih := joinL_len sep (q :: r)
    simp only [List.length_append, List.map_cons, List.sum_cons, List.length_cons, Nat.succ_mul] at ih ⊢
    omega
theorem split_row {ns : List Int} (h : ns ≠ []) : Txt.split (S (rowT ns)) (S [44, 32]) = ns.map fun n => S (numT n) := by
  rw [split_S (by decide) (by decide)]
  unfold rowT
  rw [spl_join (by simp [h])]
  · rw [List.map_map]
    rfl
  · intro p hp
    obtain ⟨n, _, rfl⟩ := List.mem_map.mp hp
    intro hc
    have := numT_free n _ hc
    omega
theorem join_row (ns : List Int) : Txt.join (S [44, 32]) (ns.map fun n => S (numT n)) = S (rowT ns) := by
  have := join_S [44, 32] (ns.map numT)
  rw [List.map_map] at this
  exact this
theorem numT_inj {m n : Int} (h : numT m = numT n) : m = n := by
  have := wholeT_num m
  rw [h, wholeT_num] at this
  cases this
  rfl
theorem log_num {n : Int} (h : n.natAbs < 2 ^ 1900) : n.natAbs.log2 < 1920 := Nat.lt_of_lt_of_le (PySem.Flt.log2_lt_of (k := 1900) (by decide) h) (by decide)
theorem bits_num {n : Int} (h : n.natAbs < 2 ^ 1900) : (((PySem.Builtin.Int.intBits n : Nat) : Int) ≤ 14000) := by
  have := PyProof.Rows.intBits_le h
  omega
theorem num_neg {n : Int} (h : n < 0) : ("-" : Str) ++ S (numT (-n)) = S (numT n) := by
  have e : numT n = 45 :: numT (-n) := by
    unfold numT
    rw [if_pos h, if_neg (by omega), Int.natAbs_neg]
  rw [e]
  exact S_cat [45] (numT (-n))
theorem numT_lt {n : Int} (h : n.natAbs < 2 ^ 1900) : (numT n).length ≤ 1901 := by
  have := str_len (i := n) (Nat.lt_of_lt_of_le (PySem.Flt.log2_lt_of (k := 1900) (by decide) h) (by decide))
  have e : (toString n : Str).length = (numT n).length := by
    show (Str.ofString (toString n)).length = _
    rw [str_num, S_len]
  omega
end Bk
namespace Bk
open PySem PySem.Spec PyProof.Rows L2 Evl SX
/-! ### f'..': readings -/
def EvJ (ts : List TE) (σ : L2.St) (H : Hp) (acc out : List Nat) : Prop := ∀ H1, Ex H H1 → ∀ Q : Str → Hp → Prop, (∀ H2, Ex H1 H2 → Q (S out) H2) → tJs ts (S acc) σ H1 Q
section
variable {K : PySem.W.Frag} {σ : L2.St} {H : Hp} {t te ta tb : TE} {ts : List TE} {a b out : List Nat}
theorem ej_nil : EvJ [] σ H a a := fun H1 e Q q => q H1 (Ex.refl H1)
theorem ej_cons (h : Ev t σ H (.str (S b))) (hz : a.length + b.length ≤ 100000) (r : EvJ ts σ H (a ++ b) out) : EvJ (t :: ts) σ H a out := fun H1 e Q q =>
  h H1 e _ fun H2 e2 => ⟨S b, rfl, by rw [S_cat, S_len, List.length_append]; exact sz_of hz, by
    rw [S_cat]
    exact r H2 (e.trans e2) Q fun H3 e3 => q H3 (e2.trans e3)⟩
theorem ev_js (h : EvJ ts σ H [] out) : Ev (fun σ H Q => tJs ts Str.empty σ H fun out H1 => Q (.str out) H1) σ H (.str (S out)) := fun H1 e Q q => h H1 e _ fun H2 e2 => q H2 e2
theorem ev_fmt {y : List Nat} (h : Ev te σ H (.str (S y))) (hz : y.length ≤ 100000) : Ev (tFmt te) σ H (.str (S y)) := fun H1 e Q q => h H1 e _ fun H2 e2 => .inl ⟨S y, rfl, slen y hz, q H2 e2⟩
theorem ev_addT (h : Ev ta σ H (.str (S a))) (h' : Ev tb σ H (.str (S b))) (hz : a.length + b.length ≤ 100000) : Ev (tOp (fun x y H Q => ∃ i j, x = V.str i ∧ y = V.str j ∧ i.length + j.length ≤ sizeLine ∧ Q (.str (i ++ j)) H) ta tb) σ H (.str (S (a ++ b))) :=
  ev_is (ev_op h h' (rv_addS (by rw [S_len, S_len]; exact hz))) (congrArg V.str (S_cat a b))
end
/-! ### lists of texts compared -/
def vs (ys : List (List Nat)) : List V := ys.map fun l => .str (S l)
def ds (ys : List (List Nat)) : List PyData := ys.map fun l => .str (S l)
def strsOk (ys : List (List Nat)) : Prop := ∀ l ∈ ys, (l.all fun c => decide (c < 1114112)) = true
theorem strsOk_of {ys : List (List Nat)} (h : (ys.all fun l => l.all fun c => decide (c < 1114112)) = true) : strsOk ys := fun l hl => List.all_eq_true.mp h l hl
theorem ok_S {l : List Nat} (h : (l.all fun c => decide (c < 1114112)) = true) : PyData.strOk (S l) = true := by
  show (S l).cps.all _ = true
  rw [← Array.all_toList]
  exact h
theorem dpAll_strs (K : PySem.W.Frag) (H : Hp) : ∀ ys : List (List Nat), DpAll K H (vs ys) (ds ys)
  | [] => .nil
  | y :: ys => .cons (.str _) (dpAll_strs K H ys)
theorem canLay_strs : ∀ {ys : List (List Nat)}, strsOk ys → PyData.canLayAll0 (ds ys) = true
  | [], _ => rfl
  | y :: ys, h => by
    show PyData.canLayAll0 (.str (S y) :: ds ys) = true
    rw [PyData.canLayAll0, PyData.canLay0, ok_S (h y (List.mem_cons_self ..)), canLay_strs fun l m => h l (List.mem_cons_of_mem _ m)]
    rfl
theorem depth_strs : ∀ ys : List (List Nat), PyData.depthAll (ds ys) = 0
  | [] => rfl
  | y :: ys => by
    show PyData.depthAll (.str (S y) :: ds ys) = 0
    rw [PyData.depthAll, PyData.depth, depth_strs ys]
    rfl
theorem shaped_strs {ys : List (List Nat)} (h : strsOk ys) : SeqAt.shaped (.list (ds ys)) = true := by
  unfold SeqAt.shaped
  rw [PyData.canLay0, PyData.depth, canLay_strs h, depth_strs]
  rfl
theorem eqvAll_strs : ∀ as bs : List (List Nat), PyData.eqvAll (ds as) (ds bs) = decide (as = bs)
  | [], [] => rfl
  | [], _ :: _ => rfl
  | _ :: _, [] => rfl
  | a :: as, b :: bs => by
    show PyData.eqvAll (.str (S a) :: ds as) (.str (S b) :: ds bs) = _
    rw [PyData.eqvAll, PyData.eqv, eqvAll_strs as bs, S_beq]
    by_cases h : a = b
    · by_cases h2 : as = bs
      · simp [h, h2]
      · simp [h, h2]
    · simp [h]
section
variable {K : PySem.W.Frag} {σ : L2.St} {H : Hp} {ta tb : TE} {as bs : List (List Nat)}
theorem ev_eqTT (ha : strsOk as) (hb : strsOk bs) (h1 : EvL ta σ H (vs as)) (h2 : EvL tb σ H (vs bs)) : Ev (tOp (rEqD K) ta tb) σ H (.bl (decide (as = bs))) := fun H1 e Q k =>
  h1 H1 e _ fun p H2 _ e2 g2 => h2 H2 (e.trans e2) _ fun q H3 _ e3 g3 => ⟨.list (ds as), .list (ds bs), .lst (sq_of (e3 _ _ g2)) (dpAll_strs K H3 as), .lst (sq_of g3) (dpAll_strs K H3 bs), shaped_strs ha, shaped_strs hb, by
    rw [PyData.eqv, eqvAll_strs]
    exact k H3 (e2.trans e3)⟩
theorem ev_eqPT {p : Addr} (ha : strsOk as) (hb : strsOk bs) (h1 : Ev ta σ H (.ref p)) (g : SqL K H p (vs as)) (h2 : EvL tb σ H (vs bs)) : Ev (tOp (rEqD K) ta tb) σ H (.bl (decide (as = bs))) := fun H1 e Q k =>
  h1 H1 e _ fun H2 e2 => h2 H2 (e.trans e2) _ fun q H3 _ e3 g3 => ⟨.list (ds as), .list (ds bs), .lst (ex_l ((e.trans e2).trans e3) g) (dpAll_strs K H3 as), .lst (sq_of g3) (dpAll_strs K H3 bs), shaped_strs ha, shaped_strs hb, by
    rw [PyData.eqv, eqvAll_strs]
    exact k H3 (e2.trans e3)⟩
end
theorem tup_lst {H : Hp} {r l : Addr} {us xs : List V} (h : H r = some (.tup us)) (g : H l = some (.lst xs)) : r ≠ l := fun z => by
  rw [z, g] at h
  cases h
theorem well_lst {H : Hp} {a : Addr} {n : Nat} (w : Well H a n) : ∃ xs, H a = some (.lst xs) := by
  obtain ⟨x, y, c, q1, q2⟩ := w
  exact ⟨_, q1⟩
/-! ### the texts of rules: split at ' + ' -/
theorem pre_plus {p q : List Nat} (h : 43 ∉ p) : ∀ i, i < p.length → TL.pre [32, 43, 32] ((p ++ ([32, 43, 32] ++ q)).drop i) = false := fun i hi => by
  have hlt : i < (p ++ ([32, 43, 32] ++ q)).length := by rw [List.length_append]; omega
  rw [List.drop_eq_getElem_cons hlt]
  have hlt2 : i + 1 < (p ++ ([32, 43, 32] ++ q)).length := by
    rw [List.length_append, List.length_append]
    show _ < _ + (3 + _)
    omega
  rw [List.drop_eq_getElem_cons hlt2]
  have n2 : (p ++ ([32, 43, 32] ++ q))[i + 1] ≠ 43 := by
    by_cases c : i + 1 < p.length
    · rw [List.getElem_append_left c]
      exact fun z => h (z ▸ List.getElem_mem c)
    · rw [List.getElem_append_right (by omega)]
      have e : i + 1 - p.length = 0 := by omega
      simp only [e]
      show (32 : Nat) ≠ 43
      decide
  generalize (p ++ ([32, 43, 32] ++ q))[i] = c1
  generalize (p ++ ([32, 43, 32] ++ q))[i + 1] = c2 at n2
  show ((c1 :: c2 :: _).take 3 == [32, 43, 32]) = false
  refine beq_eq_false_iff_ne.mpr fun z => ?_
  simp only [List.take_succ_cons, List.cons.injEq] at z
  exact n2 z.2.1
theorem pre_plus_last {p : List Nat} (h : 43 ∉ p) : ∀ i, i < p.length → TL.pre [32, 43, 32] (p.drop i) = false := fun i hi => by
  rw [List.drop_eq_getElem_cons hi]
  have hm : 43 ∉ p.drop (i + 1) := fun m => h (List.mem_of_mem_drop m)
  generalize p[i] = c1
  generalize p.drop (i + 1) = r at hm
  show ((c1 :: r).take 3 == [32, 43, 32]) = false
  refine beq_eq_false_iff_ne.mpr fun z => ?_
  cases r with
  | nil => simp at z
  | cons c2 r =>
    simp only [List.take_succ_cons, List.cons.injEq] at z
    exact hm (by rw [z.2.1]; exact List.mem_cons_self ..)
theorem spl_plus : ∀ {parts : List (List Nat)}, parts ≠ [] → (∀ p ∈ parts, 43 ∉ p) → TL.spl [32, 43, 32] 0 [] (TL.joinL [32, 43, 32] parts) = parts
  | [], h, _ => absurd rfl h
  | [p], _, hp => by
    show TL.spl [32, 43, 32] 0 [] p = [p]
    rw [TL.spl_last (pre_plus_last (hp p (List.mem_singleton.mpr rfl))), List.nil_append]
  | p :: q :: r, _, hp => by
    show TL.spl [32, 43, 32] 0 [] (p ++ ([32, 43, 32] ++ TL.joinL [32, 43, 32] (q :: r))) = p :: q :: r
    rw [TL.spl_part (by simp) (pre_plus (hp p (List.mem_cons_self ..))), List.nil_append, spl_plus (by simp) fun z hz => hp z (List.mem_cons_of_mem _ hz)]
def PI (lo hi : Int) : V → Prop := fun v => ∃ c : Int, v = .int c ∧ lo ≤ c ∧ c ≤ hi
theorem ew_i {σ : L2.St} {H : Hp} {te : TE} {a : Addr} {c lo hi : Int} (h : Ev te σ (hid a H) (.int c)) (h0 : lo ≤ c) (h1 : c ≤ hi) : EvW a 0 te σ H (PI lo hi) := ew_pure h ⟨c, rfl, h0, h1⟩
theorem ewx_nil {σ : L2.St} {H : Hp} {a : Addr} {P : V → Prop} : EvWA a 0 tNil σ H (fun vs => vs.length = 0 ∧ ∀ v ∈ vs, P v) := fun n H1 b w l Q q => q [] H1 (But.refl a H1) w ⟨rfl, fun _ h => nomatch h⟩
theorem ewx_cons {σ : L2.St} {H : Hp} {a : Addr} {P : V → Prop} {d1 d2 n : Nat} {te : TE} {tr : TA} (h : EvW a d1 te σ H P) (hr : EvWA a d2 tr σ H (fun vs => vs.length = n ∧ ∀ v ∈ vs, P v)) : EvWA a (d1 + d2) (tCons te tr) σ H (fun vs => vs.length = n + 1 ∧ ∀ v ∈ vs, P v) :=
  ewa_mono (ewa_cons h hr) fun vs ⟨x, xs, e, px, l, hx⟩ => by
    subst e
    refine ⟨by rw [List.length_cons, l], fun v hv => ?_⟩
    rcases List.mem_cons.mp hv with rfl | hv
    · exact px
    · exact hx v hv
theorem ew_pi {K : PySem.W.Frag} {σ : L2.St} {H : Hp} {a : Addr} {i : Nat} {E : XK} {te : TE} {m lo hi : Int} (hσ : σ[i]? = some (some (.ref a))) (h : Ev te σ (hid a H) (.int m)) (h0 : 0 < m) (h1 : m < 2 ^ 250) (l : 0 ≤ lo) (u : m ≤ hi + 1) (z : lo = 0) : EvW a 1 (tCall (sp_dr K) [] E (tCons (tVar i) (tCons te tNil))) σ H (PI lo hi) :=
  (ew_drawC hσ h h0 (lt8000 h1)).mono fun v ⟨r, e, r0, r1⟩ => ⟨r, e, by omega, by omega⟩
theorem ew_pisub {σ : L2.St} {H : Hp} {a : Addr} {ta tb : TE} {d : Nat} {lo hi lo' hi' k : Int} (h : EvW a d ta σ H (PI lo hi)) (h' : Ev tb σ (hid a H) (.int k)) (l : lo' ≤ lo - k) (u : hi - k ≤ hi') : EvW a (d + 0) (tOp (rI0 fun i j => .int (i - j)) ta tb) σ H (PI lo' hi') :=
  ew_op (P2 := fun v => v = .int k) h (ew_pure h' rfl) fun x y ⟨r, e, r0, r1⟩ e2 => ⟨.int (r - k), fun H => by subst e e2; exact rv_I0, _, rfl, by omega, by omega⟩
theorem ew_piadd {σ : L2.St} {H : Hp} {a : Addr} {ta tb : TE} {d : Nat} {lo hi lo' hi' k : Int} (h' : Ev ta σ (hid a H) (.int k)) (h : EvW a d tb σ H (PI lo hi)) (l : lo' ≤ k + lo) (u : k + hi ≤ hi') : EvW a (0 + d) (tOp (rI0 fun i j => .int (i + j)) ta tb) σ H (PI lo' hi') :=
  ew_op (P1 := fun v => v = .int k) (ew_pure h' rfl) h fun x y e2 ⟨r, e, r0, r1⟩ => ⟨.int (k + r), fun H => by subst e e2; exact rv_I0, _, rfl, by omega, by omega⟩
theorem given_map (ns : List Int) (f : Int → V) : given ns.length (fun _ => true) (fun i => f (ns.getD i 0)) = ns.map f := by
  rw [given_all]
  refine List.ext_getElem (by simp) fun i h1 h2 => ?_
  simp at h1
  simp [List.getD_eq_getElem?_getD, h1]
def RtOk (ns : List Int) : Prop := ns ≠ [] ∧ ns.length ≤ 4000 ∧ ∀ n ∈ ns, n.natAbs < 2 ^ 1900 ∧ (numT n).length ≤ 640
theorem RtOk.pos {ns : List Int} (h : RtOk ns) : 0 < ns.length := List.length_pos_iff.mpr h.1
theorem RtOk.sum {ns : List Int} (h : RtOk ns) : ((ns.map fun n => S (numT n)).map (·.length)).sum ≤ ns.length * 640 := by
  have e := PySem.StrLaws.sumLen_le (B := 640) (ns.map fun n => S (numT n)) fun y hy => by
    obtain ⟨n, hn, rfl⟩ := List.mem_map.mp hy
    rw [S_len]
    exact (h.2.2 n hn).2
  rw [List.length_map] at e
  exact e
theorem RtOk.fits {ns : List Int} (h : RtOk ns) : ((ns.map fun n => S (numT n)).map (·.length)).sum + (ns.map fun n => S (numT n)).length * (S [44, 32]).length ≤ 16777216 := by
  have e := h.sum
  have h1 := h.2.1
  rw [List.length_map, S_len]
  show _ + ns.length * 2 ≤ _
  omega
theorem RtOk.len {ns : List Int} (h : RtOk ns) : (rowT ns).length + 2 ≤ sizeLine := by
  have e := joinL_len [44, 32] (ns.map numT)
  have e2 := h.sum
  rw [List.map_map] at e2
  have e3 : ((ns.map numT).map (·.length)).sum = (ns.map ((·.length) ∘ fun n => S (numT n))).sum := by
    rw [List.map_map]
    congr 1
  rw [e3, List.length_map] at e
  have h1 := h.2.1
  have e4 : ([44, 32] : List Nat).length = 2 := rfl
  rw [e4] at e
  unfold rowT
  show _ ≤ 2 ^ 24
  omega
def NumOk (z : Int) : Prop := -(10 ^ 60) ≤ z ∧ z ≤ 10 ^ 60
theorem p59 : (10 : Int) ^ Int.toNat 59 = 100000000000000000000000000000000000000000000000000000000000 := by decide
theorem p60 : (10 : Int) ^ 60 = 1000000000000000000000000000000000000000000000000000000000000 := by decide
theorem p60' : (10 : Int) ^ Int.toNat 60 = 1000000000000000000000000000000000000000000000000000000000000 := by decide
theorem mul_lt9 {x y : Int} (hx0 : 0 ≤ x) (hx : x < 10 ^ Int.toNat 9) (hy0 : 0 ≤ y) (hy : y < 10 ^ Int.toNat 9) : 0 ≤ x * y ∧ x * y ≤ 1000000000000000000 := by
  have e : (10 : Int) ^ Int.toNat 9 = 1000000000 := by decide
  rw [e] at hx hy
  refine ⟨Int.mul_nonneg hx0 hy0, ?_⟩
  have := Int.mul_le_mul (show x ≤ 1000000000 by omega) (show y ≤ 1000000000 by omega) hy0 (by decide)
  omega
theorem num_ok {z : Int} (h : NumOk z) : z.natAbs < 2 ^ 1900 ∧ (numT z).length ≤ 640 := by
  unfold NumOk at h
  rw [p60] at h
  have e : (2 : Nat) ^ 240 = 1766847064778384329583297500742918515827483896875618958121606201292619776 := by decide
  have hz : z.natAbs < 2 ^ 240 := by
    rw [e]
    omega
  refine ⟨Nat.lt_of_lt_of_le hz (Nat.pow_le_pow_right (by decide) (by decide)), ?_⟩
  have e61 : (10 : Int) ^ 61 = 10000000000000000000000000000000000000000000000000000000000000 := by decide
  have h0 : -(10 ^ 61) < z := by
    rw [e61]
    omega
  have h1 : z < 10 ^ 61 := by
    rw [e61]
    omega
  have := numT_len (n := z) (k := 61) (by decide) h0 h1
  omega
theorem rt_ok {ns : List Int} (h0 : 0 < ns.length) (h1 : ns.length ≤ 300) (h : ∀ z ∈ ns, NumOk z) : RtOk ns := ⟨List.length_pos_iff.mp h0, by omega, fun n hn => num_ok (h n hn)⟩
theorem num_wide {ns : List Int} (h : ∀ z ∈ ns, NumOk z) : wide 1900 ns := fun n hn => by
  have := h n hn
  unfold NumOk at this
  rw [p60] at this
  have e : (2 : Nat) ^ 240 = 1766847064778384329583297500742918515827483896875618958121606201292619776 := by decide
  have hz : n.natAbs < 2 ^ 240 := by
    rw [e]
    omega
  exact Nat.lt_of_lt_of_le (PySem.Flt.log2_lt_of (k := 240) (by decide) hz) (by decide)
theorem cut_one {ns : List Int} {j : Nat} {x : Int} (h : ns[j]? = some x) : cutV (vi ns) (some (j : Int)) (some ((j : Int) + 1)) = vi [x] := by
  have hj := (List.getElem?_eq_some_iff.mp h).1
  have hx := (List.getElem?_eq_some_iff.mp h).2
  unfold cutV
  rw [show (j : Int) + 1 = ((j + 1 : Nat) : Int) from rfl, HT.sIx_nat, HT.sIx_nat, List.length_map, Nat.min_eq_left (by omega), Nat.min_eq_left (by omega), show j + 1 - j = 1 by omega, ← List.map_drop, ← List.map_take, List.drop_eq_getElem_cons hj, hx]
  rfl
theorem num_len {z : Int} (h : NumOk z) : (numT z).length ≤ 62 := by
  unfold NumOk at h
  rw [p60] at h
  have e61 : (10 : Int) ^ 61 = 10000000000000000000000000000000000000000000000000000000000000 := by decide
  have h0 : -(10 ^ 61) < z := by
    rw [e61]
    omega
  have h1 : z < 10 ^ 61 := by
    rw [e61]
    omega
  exact numT_len (n := z) (k := 61) (by decide) h0 h1
end Bk
namespace Bk
open PySem PySem.Spec PyProof.Rows L2 Evl SX
/-! ### an integer, or a value of another kind -/
def NV (H : Hp) (v : V) (o : Option Int) : Prop := match o with | some m => v = .int m | none => OddV H v
theorem NV.ex {H H' : Hp} {v : V} {o : Option Int} (h : NV H v o) (e : Ex H H') : NV H' v o := by
  cases o with
  | none => exact OddV.ex h e
  | some m => exact h
def inZ (o : Option Int) (lo hi : Int) : Bool := match o with | some m => decide (lo ≤ m) && decide (m ≤ hi) | none => false
theorem nv_opt {H : Hp} (o : Option Int) : NV H (optI o) o := by
  cases o with
  | none => exact .inl rfl
  | some m => rfl
/-! ### words of lists -/
def rInsert : V → List V → Hp → VK → Prop := fun x vs H Q => ∃ (l : Addr) (xs : List V) (i : Int) (y : V), x = .ref l ∧ vs = [.int i, y] ∧ H l = some (.lst xs) ∧ xs.length < sizeLine ∧ 0 ≤ i ∧ i < 2 ^ 63 ∧ Q .non (upd H l (.lst (xs.take i.toNat ++ [y] ++ xs.drop i.toNat)))
theorem mt_insertR {X : Cx} : MtR X "list.insert" rInsert := mt_insert
section
variable {K : PySem.W.Frag} {σ : L2.St} {H : Hp} {ta tb te : TE} {D : Ends} {tz : TS}
theorem s_insert {l : Addr} {xs : List V} {i : Nat} {y : V} (hl : H l = some (.lst xs)) (h : Ev ta σ H (.ref l)) (h1 : Ev tb σ H (.int (i : Int))) (h2 : Ev te σ H y) (hz : xs.length < 100000) (hi : i ≤ 100000) (k : ∀ H1, Ex H H1 → D.nx σ (upd H1 l (.lst (xs.take i ++ [y] ++ xs.drop i)))) : tDrop (tBM K "list" rInsert ta (tCons tb (tCons te tNil))) D σ H :=
  h H (Ex.refl H) _ fun H1 e1 => ⟨.inl ⟨rfl, xs, sq_of (e1 _ _ hl)⟩, h1 H1 e1 _ fun H2 e2 => h2 H2 (e1.trans e2) _ fun H3 e3 => ⟨l, xs, (i : Int), y, rfl, rfl, ((e1.trans e2).trans e3) _ _ hl, sz_lt hz, by omega, by omega, by rw [Int.toNat_natCast]; exact k H3 ((e1.trans e2).trans e3)⟩⟩
theorem s_popAt {l : Addr} {xs : List V} {i : Nat} (hl : H l = some (.lst xs)) (h : Ev ta σ H (.ref l)) (h1 : Ev tb σ H (.int (i : Int))) (hi : i < xs.length) (hz : xs.length ≤ 100000) (k : ∀ H1, Ex H H1 → D.nx σ (upd H1 l (.lst (xs.eraseIdx i)))) : tDrop (tBM K "list" rPopAt ta (tCons tb tNil)) D σ H :=
  h H (Ex.refl H) _ fun H1 e1 => ⟨.inl ⟨rfl, xs, sq_of (e1 _ _ hl)⟩, h1 H1 e1 _ fun H2 e2 => ⟨l, xs, (i : Int), i, xs[i], rfl, rfl, (e1.trans e2) _ _ hl, by omega, by omega, by
    obtain ⟨j, e, ej, _⟩ := atI_get (atI_nat (List.getElem?_eq_getElem hi))
    have e2 : seqIndex? (i : Int) xs.length = some i := by
      unfold seqIndex?
      simp only []
      rw [if_neg (show ¬ (i : Int) < 0 by omega), if_pos (by simp; omega), Int.toNat_natCast]
    exact e2, List.getElem?_eq_getElem hi, k H2 (e1.trans e2)⟩⟩
end
theorem cutV_both (xs : List V) (j k : Nat) : cutV xs (some (j : Int)) (some (k : Int)) = (xs.drop j).take (k - j) := by
  unfold cutV
  rw [HT.sIx_nat, HT.sIx_nat]
  by_cases h : j ≤ xs.length
  · rw [Nat.min_eq_left h]
    by_cases h2 : k ≤ xs.length
    · rw [Nat.min_eq_left h2]
    · rw [Nat.min_eq_right (show xs.length ≤ k by omega), List.take_of_length_le (by rw [List.length_drop]; omega), List.take_of_length_le (by rw [List.length_drop]; omega)]
  · rw [Nat.min_eq_right (show xs.length ≤ j by omega), List.drop_length, List.take_nil, List.drop_eq_nil_of_le (by omega), List.take_nil]
/-! ### split, of any text -/
def prts (sep l : List Nat) : List (List Nat) := TL.spl sep 0 [] l
theorem prts_S {sep l : List Nat} (h : sep ≠ []) (hk : (sep.all (· < 256)) = true) : Txt.split (S l) (S sep) = (prts sep l).map S := split_S h hk
theorem prts_join {sep l : List Nat} (h : sep ≠ []) (hk : (sep.all (· < 256)) = true) : TL.joinL sep (prts sep l) = l := by
  have e := PySem.StrLaws.join_split (S l) (S sep)
  rw [prts_S h hk] at e
  have e2 := congrArg TL.tl e
  rw [TL.tl_join, List.map_map] at e2
  have e3 : (prts sep l).map (TL.tl ∘ S) = prts sep l := by
    rw [show (TL.tl ∘ S) = id from rfl, List.map_id]
  rw [e3] at e2
  exact e2
theorem joinL_sub (sep : List Nat) : ∀ {ps : List (List Nat)} {p : List Nat}, p ∈ ps → ∀ c ∈ p, c ∈ TL.joinL sep ps
  | [], p, h, c, hc => by cases h
  | [q], p, h, c, hc => by
    rw [List.mem_singleton.mp h] at hc
    exact hc
  | q :: r :: s, p, h, c, hc => by
    show c ∈ q ++ (sep ++ TL.joinL sep (r :: s))
    rcases List.mem_cons.mp h with rfl | h
    · exact List.mem_append_left _ hc
    · exact List.mem_append_right _ (List.mem_append_right _ (joinL_sub sep h c hc))
theorem prts_mem {sep l p : List Nat} (h : sep ≠ []) (hk : (sep.all (· < 256)) = true) (hp : p ∈ prts sep l) {c : Nat} (hc : c ∈ p) : c ∈ l := by
  have := joinL_sub sep hp c hc
  rwa [prts_join h hk] at this
theorem joinL_part (sep : List Nat) : ∀ {ps : List (List Nat)} {p : List Nat}, p ∈ ps → p.length ≤ (TL.joinL sep ps).length
  | [], p, h => by cases h
  | [q], p, h => by
    rw [List.mem_singleton.mp h]
    exact Nat.le_refl _
  | q :: r :: s, p, h => by
    show p.length ≤ (q ++ (sep ++ TL.joinL sep (r :: s))).length
    rw [List.length_append, List.length_append]
    rcases List.mem_cons.mp h with rfl | h
    · omega
    · have := joinL_part sep h
      omega
theorem prts_len {sep l p : List Nat} (h : sep ≠ []) (hk : (sep.all (· < 256)) = true) (hp : p ∈ prts sep l) : p.length ≤ l.length := by
  have := joinL_part sep hp
  rwa [prts_join h hk] at this
theorem spl_some (sep : List Nat) : ∀ (l : List Nat) (k : Nat) (acc : List Nat), TL.spl sep k acc l ≠ []
  | [], k, acc => by
    rw [TL.spl_nil]
    simp
  | c :: r, 0, acc => by
    show (if TL.pre sep (c :: r) = true then acc :: TL.spl sep (sep.length - 1) [] r else TL.spl sep 0 (acc ++ [c]) r) ≠ []
    split
    · simp
    · exact spl_some sep r 0 _
  | c :: r, k + 1, acc => by
    show TL.spl sep k acc r ≠ []
    exact spl_some sep r k acc
theorem prts_ne (sep l : List Nat) : prts sep l ≠ [] := spl_some sep l 0 []
theorem prts_pos (sep l : List Nat) : 0 < (prts sep l).length := List.length_pos_iff.mpr (prts_ne sep l)
theorem joinL_count (sep : List Nat) (h : 0 < sep.length) : ∀ ps : List (List Nat), ps.length ≤ (TL.joinL sep ps).length + 1
  | [] => Nat.zero_le _
  | [q] => by show 1 ≤ _; omega
  | q :: r :: s => by
    show (q :: r :: s).length ≤ (q ++ (sep ++ TL.joinL sep (r :: s))).length + 1
    have := joinL_count sep h (r :: s)
    rw [List.length_append, List.length_append, List.length_cons]
    omega
theorem prts_count {sep l : List Nat} (h : sep ≠ []) (hk : (sep.all (· < 256)) = true) : (prts sep l).length ≤ l.length + 1 := by
  have := joinL_count sep (List.length_pos_iff.mpr h) (prts sep l)
  rwa [prts_join h hk] at this
section
variable {K : PySem.W.Frag} {σ : L2.St} {H : Hp} {te ta tb : TE} {a : Addr} {d d1 d2 n : Nat} {D : Ends} {PA : List V → Prop} {P : V → Prop} {t u : TT} {tu tw tz : TS}
/-- xs[j] = a new tuple, drawn -/
theorem sw_setU {xs : List V} {l : Addr} {j : Nat} (hl : H l = some (.lst xs)) (nl : l ≠ a) (h : EvWU a d te σ H PA) (ho : ∀ H1, Ev ta σ H1 (.ref l)) (hi : ∀ H1, Ev tb σ H1 (.int (j : Int))) (hj : j < xs.length) (w : Well H a n) (hn : n + d ≤ 2 ^ 50)
    (k : ∀ p ys H1, H p = none → But a H H1 → Well H1 a (n + d) → H1 p = some (.tup ys) → PA ys → D.nx σ (upd H1 l (.lst (xs.set j (.ref p))))) : tAsg te (gSub ta tb rSetL) D σ H :=
  h n H (But.refl a H) w (by omega) _ fun p ys H1 hp b1 w1 g1 pv => ho H1 H1 (Ex.refl H1) _ fun H2 e2 => hi H2 H2 (Ex.refl H2) _ fun H3 e3 => by
    have e13 := e2.trans e3
    exact ⟨l, xs, (j : Int), j, rfl, rfl, e13 _ _ (b1 _ _ nl hl), ixN_nat (by omega), k p ys H3 hp (b1.trans (But.ex e13)) (w1.ex e13) (e13 _ _ g1) pv⟩
/-- if draw.. == c and test: .. -/
theorem sw_ifAnd {b : Bool} (h : EvW a d te σ H (fun v => ∃ b, v = .bl b)) (hb : ∀ H1, But a H H1 → EvT u σ H1 b) (w : Well H a n) (l : n + d ≤ 2 ^ 50) (k1 : b = true → ∀ H1, But a H H1 → Well H1 a (n + d) → tu D σ H1)
    (k2 : ∀ H1, But a H H1 → Well H1 a (n + d) → tw D σ H1) : tIfS (tAnd (tTest te) u) tu tw D σ H :=
  h n H (But.refl a H) w l _ fun v H2 b2 w2 ⟨c, e⟩ => ⟨c, e, by
    cases c with
    | true =>
      refine hb H2 b2 H2 (Ex.refl H2) _ fun H3 e3 => ?_
      cases b with
      | true => exact iteT (k1 rfl H3 (b2.trans (But.ex e3)) (w2.ex e3))
      | false => exact iteF (k2 H3 (b2.trans (But.ex e3)) (w2.ex e3))
    | false => exact iteF (k2 H2 b2 w2)⟩
end
end Bk
namespace Bk
open PySem PySem.Spec PyProof.Rows L2 Evl
/-! ### several except clauses, some of which keep the error by a name -/
def wKeptM (K : PySem.W.Frag) (Wout : WX) (D : Ends) : List (Value × Option Nat × TS) → WX
  | [] => Wout
  | (c, some i, ts) :: r => fun cls d σ H => ∃ b, PySem.W.exmOne K cls c = some b ∧ (b = true → ∀ a, H a = none → ts { nx := fun σ' H' => D.nx (σ'.set i none) H', rt := D.rt, bk := fun σ' H' => D.bk (σ'.set i none) H', ct := fun σ' H' => D.ct (σ'.set i none) H' } (σ.set i (some (.ref a))) (upd H a (ExK cls d a))) ∧
    (b = false → wKeptM K Wout D r cls d σ H)
  | (c, none, ts) :: r => fun cls d σ H => ∃ b, PySem.W.exmOne K cls c = some b ∧ (b = true → ts D σ H) ∧ (b = false → wKeptM K Wout D r cls d σ H)
inductive HdsK (X : Cx) : List ExceptHandler → List (Value × Option Nat × TS) → Prop
  | nil : HdsK X [] []
  | named {x n : Str} {c : Value} {i : Nat} {ts : TS} {b₀ : Stmt} {suite : List Stmt} {np pos' : Pos} {hds : List ExceptHandler} {l : List (Value × Option Nat × TS)} (hc : Names X x c) (hi : X.N[i]? = some n) (hln : X.env.kindOf n = some .local)
      (hsu : ∀ (a : Addr) (pn : List (Addr × Obj)), PSs (X.suite a pn) (b₀ :: suite) ts) (r : HdsK X hds l) :
      HdsK X (.ExceptHandler (some (.Name x np)) (some n) (b₀ :: suite) pos' :: hds) ((c, some i, ts) :: l)
  | bare {x : Str} {c : Value} {ts : TS} {b₀ : Stmt} {suite : List Stmt} {np pos' : Pos} {hds : List ExceptHandler} {l : List (Value × Option Nat × TS)} (hc : Names X x c)
      (hsu : ∀ (a : Addr) (pn : List (Addr × Obj)), PSs (X.suite a pn) (b₀ :: suite) ts) (r : HdsK X hds l) :
      HdsK X (.ExceptHandler (some (.Name x np)) none (b₀ :: suite) pos' :: hds) ((c, none, ts) :: l)
section
variable {X : Cx} {body : List Stmt} {h₀ : ExceptHandler} {hds : List ExceptHandler} {l : List (Value × Option Nat × TS)} {pos : Pos} {tb : WX → TS} {Wout : WX}
theorem ps_try_keptM (hs : X.stack = X.env :: X.outer) (hf : X.env.frame = some X.env.locals) (hex : X.ex = []) (hN : X.N.Nodup) (tk : Takes X Wout)
    (hb : ∀ (W : WX) (pn : List (Addr × Obj)) (xe : Value → Shared → Prop), Takes (X.tr pn xe) W → PassesOwn (model X.prog X.w) X.A X.env xe → PSs (X.tr pn xe) body (tb W))
    (hh : HdsK X (h₀ :: hds) l) : PS X (.Try body (h₀ :: hds) [] [] pos) (fun D σ H => tb (wKeptM X.K Wout D l) D σ H) := by
  refine ⟨fun pins s σ H D I h => ?_⟩
  have ok0 := I.ok
  have frm : X.A.frames = some (X.env :: X.outer) := by rw [ok0.frames, hs]
  refine wpAny_Try_except ?_
  have run := (hb (wKeptM X.K Wout D l) (X.pn ++ pins) (fun ev t1 => wpAny (model X.prog X.w) X.A (noteFrame ev X.env) (fun _ t2 => wpAny (model X.prog X.w) X.A (setFlight ev none) (fun _ t3 =>
    wpAny (model X.prog X.w) X.A (handleBy ev X.env (h₀ :: hds)) (SP X pins D) X.xe t3) X.xe t2) X.xe t1) (fun u t' air => ?_) PassesOwn.looking).run [] s σ H D (I.toTry _) h
  · refine wpAny_mono run (fun fl t1 hfl => ?_) (fun _ _ he => he)
    cases fl with
    | next =>
      obtain ⟨σ', H', J, q⟩ := hfl
      exact wpAny_execs_nil ⟨σ', H', J.ofTry ok0, q⟩
    | brk =>
      obtain ⟨σ', H', J, q⟩ := hfl
      exact ⟨σ', H', J.ofTry ok0, q⟩
    | cont =>
      obtain ⟨σ', H', J, q⟩ := hfl
      exact ⟨σ', H', J.ofTry ok0, q⟩
    | ret u =>
      obtain ⟨v, σ', H', J, r, q⟩ := hfl
      exact ⟨v, σ', H', J.ofTry ok0, r, q⟩
  · obtain ⟨a, B, sJ, pins', σ', H', cls, d, rfl, Jt, nb, up, sky, na, eos, bare, w⟩ := air
    have J : Inv X pins σ' H' sJ := Jt.ofTry ok0
    have skyE : Sky B (X.env :: X.outer) a (Zc cls d) X.env.locals t'.heap := by rw [← hs]; exact sky
    show wpAny (model X.prog X.w) X.A (noteFrame (.ref a) X.env) _ _ _
    refine Sky.land Zc.steady frm hf skyE fun g3 f3 u3 => ?_
    have J3 : Inv X pins σ' H' { t' with heap := g3 } := J.landed nb f3.1 (up.trans u3) eos bare
    obtain ⟨o3, v3, ho3, hz3, hd3⟩ := f3.there
    have notIn : ∀ {hh : Heap} {o : Obj} {vs : Array Value}, hh.FunFrames B (X.env :: X.outer) → hh.get? a = some o → o.data = .fields vs → a ∉ frs (X.env :: X.outer) := fun {hh o vs} ff e dd hm => by
      obtain ⟨_, o', e', nf⟩ := ff.mem hm
      rw [e] at e'
      cases e'
      exact nf _ dd
    have nfr := notIn f3.2.2.1 ho3 hd3
    have nL : a ≠ X.env.locals := fun z => nfr (List.mem_filterMap.mpr ⟨X.env, List.mem_cons_self, by rw [hf, z]⟩)
    have nJ : sJ.heap.get? a = none := by
      cases q : sJ.heap.get? a with
      | none => rfl
      | some o =>
        have r := nb a o q (by rw [show frs (X.tr (X.pn ++ pins) _).stack = frs (X.env :: X.outer) by rw [← hs]]; exact nfr)
        rw [f3.2.1] at r
        cases r
    have n0 : X.s_0.heap.get? a = none := by
      cases q : X.s_0.heap.get? a with
      | none => rfl
      | some o =>
        obtain ⟨o', r⟩ := J.base.there a o q (by rw [hex]; exact List.not_mem_nil)
        rw [nJ] at r
        cases r
    have nP : ∀ p ∈ X.pn ++ pins, p.1 ≠ a := fun p hp z => by
      have r := (J.pin p hp).1
      rw [z, nJ] at r
      cases r
    have lt : PySem.W.Looks (model X.prog X.w) g3 (typeOf (.ref a)) cls := fun A Q E s k q => wpAny_typeOf_ref (k _ _ ho3) (by rw [hz3.1]; exact q)
    have S3 := suite0 J3 a
    have asks : ∀ {x : Str} {c : Value} {np : Pos}, Names X x c → ∀ {Q : Value → Shared → Prop} {E : Value → Shared → Prop}, Q c { t' with heap := g3 } → wpAny (model X.prog X.w) (X.A.mark (some (.ref a))) (eval (.Name x np) X.env) Q E { t' with heap := g3 } := fun {x c np} hc {Q E} q => by
      obtain ⟨hg, hdbg, hm | ⟨hm, hv, hnn⟩⟩ := hc
      · exact ld_glob (X := X.suite a (X.pn ++ pins)) S3 hg hm q hdbg
      · exact ld_blt (X := X.suite a (X.pn ++ pins)) S3 hg hm hv q hnn hdbg
    have go : ∀ {hds' : List ExceptHandler} {l' : List (Value × Option Nat × TS)}, HdsK X hds' l' → wKeptM X.K Wout D l' cls d σ' H' →
        wpAny (model X.prog X.w) X.A (handleBy (.ref a) X.env hds') (SP X pins D) X.xe { t' with heap := g3 } := by
      intro hds' l' hk
      induction hk with
      | nil =>
        intro w
        refine wpAny_handleBy_nil ?_
        obtain ⟨y1, y2, y3, oe, vs, T, oT, ts', he, hz, hd, h1, hr⟩ := id f3
        unfold PySem.passOn
        refine wpAny_bind (wpAny_field he hd h1 ?_)
        rw [if_neg (show ¬ ((Value.ref T == Value.none) = true) from by simp)]
        have onward : wpAny (model X.prog X.w) X.A (setFlight (.ref a) X.env.frame) (fun _ s4 => wpAny (model X.prog X.w) X.A (throw (.ref a) : Sem Flow) (SP X pins D) X.xe s4) X.xe { t' with heap := g3 } := by
          rw [hf]
          refine HandSPX.setFlight_upZ f3 fun g4 hh4 u4 => wpAny_throw (tk _ _ ?_)
          exact ⟨a, B, sJ, pins, σ', H', cls, d, rfl, J, nb, (up.trans u3).trans u4, .inr (.inr (by rw [hs]; exact hh4)), na, eos, bare, w⟩
        first
          | exact wpAny_bind (wpAny_pure (wpAny_bind onward))
          | exact wpAny_bind onward
      | @named x n c i ts b₀ suite np pos' hds2 l2 hc hi hln hsu r ih =>
        intro w
        obtain ⟨b, hb1, hyes, hno⟩ := w
        have isLoc : Loc X.env.scope n := .inl hln
        refine wpAny_handleBy_cons (codeAny_handlers_test ?_) (by intro q; cases q)
        have lm := PySem.W.exm_one (M := model X.prog X.w) (J3.kIn) lt hb1
        refine asks hc (lm.here ?_)
        cases b with
        | true =>
          refine codeAny_handlers_suite_as ?_
          refine HandSPX.lands_againZ f3 fun g4 f4 u4 => ?_
          have J4 : Inv X pins σ' H' { t' with heap := g4 } := J.landed nb f4.1 ((up.trans u3).trans u4) eos bare
          obtain ⟨o4, v4, ho4, hz4, hd4⟩ := f4.there
          have S4 := suite0 (adopt J4 ho4 hz4 hd4 na n0 nL nP) a
          refine store_ok (X := X.suite a (X.pn ++ pins)) (v := .ref a) S4 hN hi isLoc rfl (fun s5 S5 => ?_) (.inr hln)
          refine wpAny_mono ((hsu a (X.pn ++ pins)).run [] s5 _ _ _ S5 (hyes rfl a na)) (fun fl s6 hfl => ?_) (fun _ _ z => False.elim z)
          have away : ∀ {σ6 : L2.St} {H6 : Hp} {Q : Shared → Prop}, Inv (X.suite a (X.pn ++ pins)) [] σ6 H6 s6 → (∀ s7, Inv X pins (σ6.set i none) H6 s7 → Q s7) →
              wpAny (model X.prog X.w) X.A (do bindName X.env n .none; unbindBehindTheSuite X.env n pos') (fun _ s7 => Q s7) X.xe s6 := fun {σ6 H6 Q} S6 hq => gone_ok (unsuite0 S6 ok0) hN hi hln hq
          cases fl with
          | next =>
            obtain ⟨σ6, H6, S6, q6⟩ := hfl
            exact away S6 fun s7 J7 => ⟨_, _, J7, q6⟩
          | brk =>
            obtain ⟨σ6, H6, S6, q6⟩ := hfl
            exact away S6 fun s7 J7 => ⟨_, _, J7, q6⟩
          | cont =>
            obtain ⟨σ6, H6, S6, q6⟩ := hfl
            exact away S6 fun s7 J7 => ⟨_, _, J7, q6⟩
          | ret u =>
            obtain ⟨v6, σ6, H6, S6, r6, q6⟩ := hfl
            exact away S6 fun s7 J7 => ⟨_, _, _, J7, r6, q6⟩
        | false =>
          show wpAny _ X.A (handleBy (.ref a) X.env hds2) _ _ _
          exact ih (hno rfl)
      | @bare x c ts b₀ suite np pos' hds2 l2 hc hsu r ih =>
        intro w
        obtain ⟨b, hb1, hyes, hno⟩ := w
        refine wpAny_handleBy_cons (codeAny_handlers_test ?_) (by intro q; cases q)
        have lm := PySem.W.exm_one (M := model X.prog X.w) (J3.kIn) lt hb1
        refine asks hc (lm.here ?_)
        cases b with
        | true =>
          refine codeAny_handlers_suite ?_
          refine HandSPX.lands_againZ f3 fun g4 f4 u4 => ?_
          have J4 : Inv X pins σ' H' { t' with heap := g4 } := J.landed nb f4.1 ((up.trans u3).trans u4) eos bare
          have S4 := suite0 J4 a
          refine wpAny_mono ((hsu a (X.pn ++ pins)).run [] _ _ H' _ S4 (hyes rfl)) (fun f s6 hsp => ?_) (fun _ _ z => False.elim z)
          cases f with
          | next =>
            obtain ⟨σ6, H6, S6, q6⟩ := hsp
            exact ⟨_, _, unsuite0 S6 ok0, q6⟩
          | brk =>
            obtain ⟨σ6, H6, S6, q6⟩ := hsp
            exact ⟨_, _, unsuite0 S6 ok0, q6⟩
          | cont =>
            obtain ⟨σ6, H6, S6, q6⟩ := hsp
            exact ⟨_, _, unsuite0 S6 ok0, q6⟩
          | ret u =>
            obtain ⟨v6, σ6, H6, S6, r6, q6⟩ := hsp
            exact ⟨_, _, _, unsuite0 S6 ok0, r6, q6⟩
        | false =>
          show wpAny _ X.A (handleBy (.ref a) X.env hds2) _ _ _
          exact ih (hno rfl)
    exact go hh w
end
end Bk
namespace Bk
open PySem PySem.Spec PyProof.Rows L2 Evl SX
/-! ### values without a text; new tuples of any values; lists of truths compared; parts of texts -/
def NotS (H : Hp) (x : V) : Prop := x = .non ∨ (∃ m, x = .int m) ∨ (∃ c, x = .bl c) ∨ (∃ a xs, x = .ref a ∧ H a = some (.lst xs)) ∨ (∃ a xs, x = .ref a ∧ H a = some (.tup xs)) ∨ (∃ a kvs, x = .ref a ∧ H a = some (.dK kvs))
theorem NotS.ex {H H' : Hp} {x : V} (h : NotS H x) (e : Ex H H') : NotS H' x := by
  rcases h with h | h | h | ⟨a, xs, h, g⟩ | ⟨a, xs, h, g⟩ | ⟨a, xs, h, g⟩
  · exact .inl h
  · exact .inr (.inl h)
  · exact .inr (.inr (.inl h))
  · exact .inr (.inr (.inr (.inl ⟨a, xs, h, e _ _ g⟩)))
  · exact .inr (.inr (.inr (.inr (.inl ⟨a, xs, h, e _ _ g⟩))))
  · exact .inr (.inr (.inr (.inr (.inr ⟨a, xs, h, e _ _ g⟩))))
theorem kb_int_str' : kitB "int" "str" = some false := by decide +kernel
theorem kb_none_str' : kitB "NoneType" "str" = some false := by decide +kernel
theorem kb_bool_str' : kitB "bool" "str" = some false := by decide +kernel
theorem kb_list_str' : kitB "list" "str" = some false := by decide +kernel
theorem kb_tuple_str' : kitB "tuple" "str" = some false := by decide +kernel
theorem kb_dict_str' : kitB "dict" "str" = some false := by decide +kernel
section
variable {K : PySem.W.Frag} {σ : L2.St} {H : Hp} {ta tb te tl : TE} {t : TA} {D : Ends} {tu tz : TS} {P : V → Hp → Prop} {PL : List V → Hp → Prop} {n : Nat}
theorem ev_notS {x : V} (h : Ev ta σ H x) (o : NotS H x) : Ev (tCB (rIsi K) (tCons ta (tCons (tC (.ty "str")) tNil))) σ H (.bl false) := by
  rcases o with rfl | ⟨m, rfl⟩ | ⟨c, rfl⟩ | ⟨a, xs, rfl, g⟩ | ⟨a, xs, rfl, g⟩ | ⟨a, kvs, rfl, g⟩
  · exact ev_isi h (fun _ _ => .base .non) kb_none_str'
  · exact ev_isi h (fun _ _ => .base (.int m)) kb_int_str'
  · exact ev_isi h (fun _ _ => .base (.bl c)) kb_bool_str'
  · exact ev_isi h (fun _ e => .base (.lst (e _ _ g))) kb_list_str'
  · exact ev_isi h (fun _ e => .base (.tup (e _ _ g))) kb_tuple_str'
  · exact ev_isi h (fun _ e => .base (.dK (e _ _ g))) kb_dict_str'
def EvUP (te : TE) (σ : L2.St) (H : Hp) (P : List V → Hp → Prop) : Prop := ∀ H1, Ex H H1 → ∀ Q : VK, (∀ p xs H2, H1 p = none → Ex H1 H2 → H2 p = some (.tup xs) → P xs H2 → Q (.ref p) H2) → te σ H1 Q
theorem eup_tup (mono : ∀ v H1 H2, Ex H1 H2 → P v H1 → P v H2) (h : EvAP t σ H (AllP P n)) (hn : n ≤ 100000) : EvUP (tTup t) σ H (AllP P n) := fun H1 e Q q =>
  h H1 e _ fun xs H2 e2 ⟨l, px⟩ => ⟨sz_of (by omega), fun p hp => q p xs _ (fresh_back e2 hp) (e2.trans (Ex.new hp)) upd_same ⟨l, fun v hv => mono _ _ _ (Ex.new hp) (px v hv)⟩⟩
theorem q_forUP {j : Nat} (h : EvUP tl σ H PL) (Pv : Addr → List V → Nat → L2.St → Hp → Prop) (h0 : ∀ p xs H1, H p = none → Ex H H1 → H1 p = some (.tup xs) → PL xs H1 → Pv p xs 0 σ H1)
    (hl : ∀ p xs i σ' H', i ≤ xs.length → Pv p xs i σ' H' → SqT K H' p xs)
    (hs : ∀ p xs i x σ' H', xs[i]? = some x → Pv p xs i σ' H' → tu { D with nx := Pv p xs (i + 1), ct := Pv p xs (i + 1), bk := tz D } (σ'.set j (some x)) H') (hd : ∀ p xs σ' H', Pv p xs xs.length σ' H' → tz D σ' H') : tSeq (tFor (iTup K tl) (gName j) tu) tz D σ H :=
  h H (Ex.refl H) _ fun p xs H1 hp e h1 px => ⟨p, rfl, ⟨xs, st_of h1⟩, for_tup (D := { D with nx := tz D }) (Pv p xs) (h0 p xs H1 hp e h1 px) (hl p xs) (fun i x σ' H' hx k => hs p xs i x σ' H' hx k) (hd p xs)⟩
theorem ev_cVL {sp : Sp} {E : XK} {x v : V} {xs : List V} (h1 : Ev ta σ H x) (h2 : EvL tb σ H xs) (hs : ∀ p H1, Ex H H1 → H1 p = some (.lst xs) → SpV sp [x, .ref p] H1 v) : Ev (tCall sp [] E (tCons ta (tCons tb tNil))) σ H v := fun H1 e Q q =>
  h1 H1 e _ fun H2 e2 => h2 H2 (e.trans e2) _ fun p H3 hp e3 g3 => hs p H3 ((e.trans e2).trans e3) g3 H3 (Ex.refl H3) Q (fun H4 e4 => q H4 ((e2.trans e3).trans e4)) E
theorem eu_slT {tl th : TO} {a : Addr} {xs : List V} {lo hi : Option Int} (h : Ev te σ H (.ref a)) (h1 : EvO tl σ H lo) (h2 : EvO th σ H hi) (hs : SqT K H a xs) (hw : ¬ (HT.sIx xs.length 0 lo = 0 ∧ HT.sIx xs.length xs.length hi = xs.length)) : EvU (tSl (rSlT K) te tl th) σ H (cutV xs lo hi) := fun H1 e _ q =>
  h H1 e _ fun H2 e2 => h1 H2 (e.trans e2) _ fun H3 e3 => h2 H3 ((e.trans e2).trans e3) _ fun H4 e4 =>
    ⟨a, xs, rfl, ex_t (((e.trans e2).trans e3).trans e4) hs, hw, fun p hp => q p _ (fresh_back ((e2.trans e3).trans e4) hp) (((e2.trans e3).trans e4).trans (Ex.new hp)) upd_same⟩
theorem el_repV {xs : List V} {n : Int} {p : Addr} (ha : Ev ta σ H (.ref p)) (g : H p = some (.lst xs)) (hb : ∀ H1, Ex H H1 → Ev tb σ H1 (.int n)) (h0 : 0 ≤ n) (hz : xs.length * n.toNat ≤ 100000) (hn : n ≤ 100000) : EvL (tOp rRep ta tb) σ H (List.replicate n.toNat xs).flatten := fun H1 e Q q =>
  ha H1 e _ fun H2 e2 => hb H2 (e.trans e2) H2 (Ex.refl H2) _ fun H3 e3 => ⟨p, n, xs, rfl, rfl, ((e.trans e2).trans e3) _ _ g, by omega, by omega, sz_of hz, fun l hl => q l _ (fresh_back (e2.trans e3) hl) ((e2.trans e3).trans (Ex.new hl)) upd_same⟩
theorem ev_joinL {ps : List (List Nat)} {sep : List Nat} (h : Ev ta σ H (.str (S sep))) (h' : EvL tb σ H (ps.map fun l => V.str (S l))) (hz : (ps.map (·.length)).sum + ps.length * sep.length ≤ 16777216) : Ev (tM1 (rJoin K) ta tb) σ H (.str (S (TL.joinL sep ps))) := by
  refine ev_is (ev_joinN (ys := ps.map S) h (el_is h' (by rw [List.map_map]; rfl)) ?_) (congrArg V.str (join_S sep ps))
  rw [List.map_map, List.length_map, S_len]
  have e : ps.map ((·.length) ∘ S) = ps.map (·.length) := List.map_congr_left fun l _ => S_len l
  rw [e]
  exact hz
/-! lists of truths -/
def dbs (bs : List Bool) : List PyData := bs.map .bool
theorem dpAll_bls (K : PySem.W.Frag) (H : Hp) : ∀ bs : List Bool, DpAll K H (bs.map .bl) (dbs bs)
  | [] => .nil
  | b :: bs => .cons (.bl b) (dpAll_bls K H bs)
theorem bls_ok : ∀ bs : List Bool, PyData.canLayAll0 (dbs bs) = true ∧ PyData.depthAll (dbs bs) = 0
  | [] => ⟨rfl, rfl⟩
  | b :: bs => by
    obtain ⟨x, y⟩ := bls_ok bs
    constructor
    · show PyData.canLayAll0 (.bool b :: dbs bs) = true
      rw [PyData.canLayAll0, PyData.canLay0, x]
      rfl
    · show PyData.depthAll (.bool b :: dbs bs) = 0
      rw [PyData.depthAll, PyData.depth, y]
      rfl
theorem bls_sh (bs : List Bool) : SeqAt.shaped (.list (dbs bs)) = true := by
  unfold SeqAt.shaped
  rw [PyData.canLay0, PyData.depth, (bls_ok bs).1, (bls_ok bs).2]
  rfl
theorem bls_eqv : ∀ bs : List Bool, PyData.eqvAll (dbs bs) (dbs bs) = true
  | [] => rfl
  | b :: bs => by
    show PyData.eqvAll (.bool b :: dbs bs) (.bool b :: dbs bs) = true
    rw [PyData.eqvAll, PyData.eqv, bls_eqv bs]
    simp
theorem ev_neBls {p : Addr} {bs : List Bool} (ha : Ev ta σ H (.ref p)) (g : SqL K H p (bs.map .bl)) (hb : EvL tb σ H (bs.map .bl)) : Ev (tOp (rNeD K) ta tb) σ H (.bl false) := fun H1 e Q k =>
  ha H1 e _ fun H2 e2 => hb H2 (e.trans e2) _ fun q H3 _ e3 g3 => ⟨.list (dbs bs), .list (dbs bs), .lst (ex_l ((e.trans e2).trans e3) g) (dpAll_bls K H3 bs), .lst (sq_of g3) (dpAll_bls K H3 bs), bls_sh bs, bls_sh bs, by
    rw [PyData.eqv, bls_eqv]
    exact k H3 (e2.trans e3)⟩
end
/-! ### a def called with nothing -/
section
variable {X : Cx} {CX : CXT} {k : Nat} {f : Addr} {fd : FuncData} {ps : List Str} {sp : Sp} {E : XK} {x : Str} {p pos : Pos}
theorem callG0 (F : FnG X.prog X.w X.K X.mg X.base CX k f fd ps sp) (hr : Rm k X.A) (hg : Gl X x) (hm : X.mg x = some (.ref f)) (hk : PySem.W.keepIn X.K (.ref f) = true) (hb : Binds X.K fd ps []) (hx : Passes CX X E)
    (hdb : (x == ("__debug__" : Str)) = false := by decide) : PE X (.Call (.Name x p) [] [] pos) (tCall sp [] E tNil) := by
  refine ⟨fun pins s σ H Q I h => wpAny_Call_Name_kw (ld_glob I hg hm ?_ hdb)⟩
  refine PySem.W.callWith_K0 (first := []) I.kIn hk ?_
  exact runG (us := []) (vs := []) F hr hb .nil hx I .nil h
end
/-! ### joined parts, split -/
theorem free_no43 : ∀ {p : List Nat}, 43 ∉ p → free [32, 43, 32] p = true
  | [], _ => rfl
  | c :: r, h => by
    have hr : 43 ∉ r := fun m => h (List.mem_cons_of_mem _ m)
    have ih := free_no43 hr
    have e : TL.pre [32, 43, 32] (c :: (r ++ [32, 43, 32])) = false := by
      show ((c :: (r ++ [32, 43, 32])).take 3 == [32, 43, 32]) = false
      refine beq_eq_false_iff_ne.mpr fun z => ?_
      cases r with
      | nil => simp at z
      | cons d r =>
        simp only [List.cons_append, List.take_succ_cons, List.cons.injEq] at z
        exact hr (by rw [z.2.1]; exact List.mem_cons_self ..)
    show (!(TL.pre [32, 43, 32] (c :: (r ++ [32, 43, 32]))) && free [32, 43, 32] r) = true
    rw [e, ih]
    rfl
theorem free_last {sep p : List Nat} (h : free sep p = true) : ∀ i, i < p.length → TL.pre sep (p.drop i) = false := fun i hi => by
  have a := free_at h [] i hi
  rw [List.append_nil] at a
  cases e : TL.pre sep (p.drop i) with
  | false => rfl
  | true =>
    have e1 : (p.drop i).take sep.length = sep := eq_of_beq e
    have hl : sep.length ≤ (p.drop i).length := by
      have := congrArg List.length e1
      rw [List.length_take] at this
      omega
    rw [List.drop_append_of_le_length (by omega), pre_mono hl, e] at a
    cases a
theorem prts_free {sep : List Nat} (hs : sep ≠ []) : ∀ {ps : List (List Nat)}, ps ≠ [] → (∀ p ∈ ps, free sep p = true) → prts sep (TL.joinL sep ps) = ps
  | [], h, _ => absurd rfl h
  | [p], _, hp => by
    show TL.spl sep 0 [] p = [p]
    rw [TL.spl_last (free_last (hp p (List.mem_singleton.mpr rfl))), List.nil_append]
  | p :: q :: r, _, hp => by
    show TL.spl sep 0 [] (p ++ (sep ++ TL.joinL sep (q :: r))) = p :: q :: r
    rw [spl_free _ hs (hp p (List.mem_cons_self ..))]
    exact congrArg (p :: ·) (prts_free hs (by simp) fun z hz => hp z (List.mem_cons_of_mem _ hz))
end Bk
namespace Bk
open PySem PySem.Spec PyProof.Rows L2 Evl SX
/-! ### texts sign by sign; the numbers' texts back -/
def rNotInS : R2 := fun x y H Q => ∃ (c : Nat) (z : Str), x = .str ⟨#[c]⟩ ∧ y = .str z ∧ Q (.bl (!decide (c ∈ z.cps.toList))) H
theorem op_notInS {X : Cx} : OpR X (compareOp .NotIn) rNotInS := op_notIn_sign
theorem given_filterN {α : Type} (xs : List α) (d : α) (p : α → Bool) (g : α → V) : given xs.length (fun j => p (xs.getD j d)) (fun j => g (xs.getD j d)) = (xs.filter p).map g := by
  have e : xs = (List.range xs.length).map fun j => xs.getD j d := by
    refine List.ext_getElem? fun i => ?_
    rw [List.getElem?_map]
    by_cases hi : i < xs.length
    · rw [List.getElem?_range hi, List.getElem?_eq_getElem hi]
      show _ = some (xs.getD i d)
      rw [List.getD_eq_getElem?_getD, List.getElem?_eq_getElem hi]
      rfl
    · rw [List.getElem?_eq_none (by omega), List.getElem?_eq_none (by rw [List.length_range]; omega)]
      rfl
  have e2 : xs.filter p = ((List.range xs.length).filter fun j => p (xs.getD j d)).map fun j => xs.getD j d := by
    conv => lhs; rw [e]
    rw [List.filter_map]
    rfl
  unfold given
  rw [e2, List.map_map]
  rfl
theorem S_sign (c : Nat) : (⟨#[c]⟩ : Str) = S [c] := rfl
theorem S_size (l : List Nat) : (S l).cps.size = l.length := S_len l
theorem S_get {l : List Nat} {i c : Nat} (h : (S l).cps[i]? = some c) : l[i]? = some c := by
  rw [← Array.getElem?_toList] at h
  exact h
theorem mem_S {c : Nat} {l : List Nat} : decide (c ∈ (S l).cps.toList) = decide (c ∈ l) := rfl
section
variable {K : PySem.W.Frag} {σ : L2.St} {H : Hp} {ta tb tl te t : TE} {tt : TT}
/-- [sign for sign in text if ..] -/
theorem el_lcS {j : Nat} {ws : List Nat} {l : List Nat} (f : Nat → Bool) (h : Ev tl σ H (.str (S l))) (hz : l.length ≤ 40000) (hw : ∀ x, wipe ((wipe σ ws).set j (some x)) ws = wipe σ ws)
    (ht : ∀ (c : Nat) H1, Ex H H1 → c ∈ l → EvT tt ((wipe σ ws).set j (some (.str (S [c])))) H1 (f c)) (he : ∀ (c : Nat) H1, Ex H H1 → c ∈ l → f c = true → Ev te ((wipe σ ws).set j (some (.str (S [c])))) H1 (.str (S [c]))) :
    EvL (tLc (iStr tl) (gName j) tt te ws) σ H (vs ((l.filter f).map fun c => [c])) := by
  have e0 : vs ((l.filter f).map fun c => [c]) = given l.length (fun i => f (l.getD i 0)) (fun i => V.str (S [l.getD i 0])) := by
    rw [given_filterN l 0 f fun c => V.str (S [c])]
    unfold vs
    rw [List.map_map]
    rfl
  rw [e0]
  intro H0 e Q q
  refine h H0 e _ fun H1 e1 => ⟨S l, rfl, fun Dl hD => ?_⟩
  refine lc_it (walk_str (z := S l)) (Cw H1 (fun i => f (l.getD i 0)) (fun i => V.str (S [l.getD i 0])) Dl) ⟨hD, Ex.new hD, upd_same⟩ (fun _ _ _ _ => trivial) (fun i x H2 H3 hi p y => ?_) fun H' p => q Dl H' (fresh_back e1 (by rw [S_size] at p; exact p.1)) (e1.trans (by rw [S_size] at p; exact p.2.1)) (by rw [S_size] at p; exact p.2.2)
  obtain ⟨rfl, c, hc, rfl⟩ := y
  have hg := S_get hc
  have hm := List.mem_of_getElem? hg
  have hd : l.getD i 0 = c := by rw [List.getD_eq_getElem?_getD, hg]; rfl
  rw [S_size] at hi
  refine ⟨hw _, cw_turn p (by omega) ?_ ?_⟩
  · show EvT tt _ H1 (f (l.getD i 0))
    rw [hd]
    exact ht c H1 (e.trans e1) hm
  · intro hf
    have hf' : f (l.getD i 0) = true := hf
    rw [hd] at hf'
    show Ev te _ H1 (V.str (S [l.getD i 0]))
    rw [hd]
    exact he c H1 (e.trans e1) hm hf'
theorem ev_neTT {as bs : List (List Nat)} (ha : strsOk as) (hb : strsOk bs) (h1 : EvL ta σ H (vs as)) (h2 : EvL tb σ H (vs bs)) : Ev (tOp (rNeD K) ta tb) σ H (.bl (!decide (as = bs))) := fun H1 e Q k =>
  h1 H1 e _ fun p H2 _ e2 g2 => h2 H2 (e.trans e2) _ fun q H3 _ e3 g3 => ⟨.list (ds as), .list (ds bs), .lst (sq_of (e3 _ _ g2)) (dpAll_strs K H3 as), .lst (sq_of g3) (dpAll_strs K H3 bs), shaped_strs ha, shaped_strs hb, by
    rw [PyData.eqv, eqvAll_strs]
    exact k H3 (e2.trans e3)⟩
theorem ev_notInS {c : Nat} {l : List Nat} (h1 : Ev ta σ H (.str (S [c]))) (h2 : Ev tb σ H (.str (S l))) : Ev (tOp rNotInS ta tb) σ H (.bl (!decide (c ∈ l))) := fun H1 e Q k =>
  h1 H1 e _ fun H2 e2 => h2 H2 (e.trans e2) _ fun H3 e3 => ⟨c, S l, rfl, rfl, k H3 (e2.trans e3)⟩
theorem rv_ixTx {l : List Nat} {i : Int} {c : Nat} (hl : l.length ≤ 16000000) (h : atI l i = some c) : RV rIxS (.str (S l)) (.int i) H (.str (S [c])) := fun H1 e Q k => ⟨S l, i, c, rfl, rfl, by rw [S_len]; show _ ≤ 2 ^ 24; omega, h, k H1 (Ex.refl H1)⟩
end
/-! the numbers' texts back -/
theorem natT_inv {l : List Nat} {n : Nat} (h : natT l = some n) : TL.numL n = l := by
  unfold natT at h
  split at h
  · rename_i c
    obtain ⟨h1, h2, h3⟩ := c
    injection h with h
    subst h
    have ad : NumText.AllDigits l := fun c hc => by
      have := List.all_eq_true.mp h1 c hc
      unfold dg at this
      simp only [Bool.and_eq_true, decide_eq_true_eq] at this
      exact this
    obtain ⟨c, r, rfl⟩ : ∃ c r, l = c :: r := by
      cases l with
      | nil => exact absurd rfl h2
      | cons c r => exact ⟨c, r, rfl⟩
    have := NumText.toDigits_digitsVal r.length (c :: r) rfl ad (by
      by_cases hr : r = []
      · exact .inl (by rw [hr]; rfl)
      · refine .inr ⟨c, r, rfl, ?_⟩
        have a := ad c (List.mem_cons_self ..)
        by_cases h48 : c = 48
        · have := h3 (by rw [h48]; rfl)
          injection this with _ x
          exact absurd x hr
        · omega)
    unfold TL.numL
    rw [this, List.map_map]
    conv => rhs; rw [← List.map_id (c :: r)]
    refine List.map_congr_left fun x hx => ?_
    have a := ad x hx
    show (Char.ofNat x).toNat = x
    have : x = 48 ∨ x = 49 ∨ x = 50 ∨ x = 51 ∨ x = 52 ∨ x = 53 ∨ x = 54 ∨ x = 55 ∨ x = 56 ∨ x = 57 := by omega
    rcases this with h | h | h | h | h | h | h | h | h | h <;> subst h <;> rfl
  · cases h
theorem wholeT_inv {l : List Nat} {n : Int} (h : wholeT l = some n) : numT n = l := by
  unfold wholeT at h
  split at h
  · rename_i c
    cases hn : natT (l.drop 1) with
    | none =>
      rw [hn] at h
      cases h
    | some m =>
      rw [hn] at h
      replace h : (if m = 0 then none else some (-(m : Int))) = some n := h
      split at h
      · cases h
      · rename_i m0
        injection h with h
        subst h
        have := natT_inv hn
        unfold numT
        rw [if_pos (by omega), show (-(m : Int)).natAbs = m by omega, this]
        conv => rhs; rw [← List.take_append_drop 1 l, c]
        rfl
  · cases hn : natT l with
    | none =>
      rw [hn] at h
      cases h
    | some m =>
      rw [hn] at h
      replace h : some (m : Int) = some n := h
      injection h with h
      subst h
      unfold numT
      rw [if_neg (by omega), show ((m : Int)).natAbs = m by omega]
      exact natT_inv hn

section
variable {K : PySem.W.Frag} {σ : L2.St} {H : Hp} {ta tb tc tl te : TE} {tt : TT} {xs : List V} {D : Ends} {tz : TS} {a : Addr} {n d1 d2 d3 : Nat}
/-- a comprehension over a new list -/
theorem el_lcNw {j : Nat} {ws : List Nat} (f : Nat → Bool) (v : Nat → V) (h : EvL tl σ H xs) (hz : xs.length ≤ 40000) (hw : ∀ x, wipe ((wipe σ ws).set j (some x)) ws = wipe σ ws)
    (ht : ∀ (i : Nat) (x : V) H1, Ex H H1 → xs[i]? = some x → EvT tt ((wipe σ ws).set j (some x)) H1 (f i)) (he : ∀ (i : Nat) (x : V) H1, Ex H H1 → xs[i]? = some x → f i = true → Ev te ((wipe σ ws).set j (some x)) H1 (v i)) :
    EvL (tLc (iList K tl) (gName j) tt te ws) σ H (given xs.length f v) := fun H0 e Q q => h H0 e _ fun a H1 ha e1 h1 => ⟨a, rfl, ⟨xs, sq_of h1⟩, fun Dl hD =>
  lc_list (xs := xs) (Cw H1 f v Dl) ⟨hD, Ex.new hD, upd_same⟩ (fun i H' _ p => sq_of (p.2.1 _ _ h1)) (fun i x H' hi p => ⟨hw x, cw_turn p (by have := (List.getElem?_eq_some_iff.mp hi).1; omega) (ht i x H1 (e.trans e1) hi) (fun hf => he i x H1 (e.trans e1) hi hf)⟩)
    (fun H' p => q Dl H' (fresh_back e1 p.1) (e1.trans p.2.1) p.2.2)⟩
theorem ev_inP {p : Addr} {x : V} (ha : Ev ta σ H x) (hb : Ev tb σ H (.ref p)) (g : SqL K H p xs) (fx : flatV x = true) (fs : xs.all flatV = true) : Ev (tOp (rIn K false) ta tb) σ H (.bl (inV x xs)) := fun H1 e Q k =>
  ha H1 e _ fun H2 e2 => hb H2 (e.trans e2) _ fun H3 e3 => ⟨p, xs, rfl, .inl (ex_l ((e.trans e2).trans e3) g), fx, fs, k H3 (e2.trans e3)⟩
theorem ev_indexN {l : Addr} {j : Nat} {y : V} (ha : Ev ta σ H (.ref l)) (h : SqL K H l xs) (fs : xs.all flatV = true) (hb : Ev tb σ H y) (fy : flatV y = true) (hj : ∃ z, xs[j]? = some z ∧ eqV z y = true) (hn : ∀ m z, m < j → xs[m]? = some z → eqV z y = false) : Ev (tBM K "list" (rIndex K) ta (tCons tb tNil)) σ H (.int (j : Nat)) := fun H1 e Q q =>
  ha H1 e _ fun H2 e2 => ⟨Or.inl ⟨rfl, _, ex_l (e.trans e2) h⟩, hb H2 (e.trans e2) _ fun H3 e3 => by
    obtain ⟨z, h1, h2⟩ := hj
    exact ⟨l, xs, y, j, z, rfl, rfl, ex_l ((e.trans e2).trans e3) h, fy, fs, h1, h2, hn, q H3 (e2.trans e3)⟩⟩
theorem ev_maxN {ns : List Int} {m : Int} (h : EvL ta σ H (vi ns)) (hm : m ∈ ns) (hx : ∀ y ∈ ns, y ≤ m) : Ev (tCB (rMax K) (tCons ta tNil)) σ H (.int m) := fun H1 e Q q =>
  h H1 e _ fun p H2 hp e2 g2 => ⟨p, ns, rfl, sq_of g2, List.length_pos_of_mem hm, fun k h1 h2 => by
    have := hx k h1
    have := h2 m hm
    have e0 : k = m := by omega
    rw [e0]
    exact q H2 e2⟩
theorem qw_par3VVL {i j l : Nat} {PA PB : V → Prop} {PC : List V → Prop} (h1 : EvW a d1 ta σ H PA) (h2 : EvW a d2 tb σ H PB) (h3 : EvWL a d3 tc σ H PC) (w : Well H a n) (hl : n + (d1 + d2 + d3) ≤ 2 ^ 50)
    (k : ∀ x y p zs H1, H p = none → But a H H1 → Well H1 a (n + (d1 + d2 + d3)) → PA x → PB y → H1 p = some (.lst zs) → PC zs →
      tz D (((σ.set i (some x)).set j (some y)).set l (some (.ref p))) H1) : tSeq (tPar3 i j l (tCons ta (tCons tb (tCons tc tNil)))) tz D σ H :=
  h1 n H (But.refl a H) w (by omega) _ fun x H2 b2 w2 pa => h2 (n + d1) H2 b2 w2 (by omega) _ fun y H3 b3 w3 pb => h3 (n + d1 + d2) H3 (b2.trans b3) w3 (by omega) _ fun p zs H4 hp b4 w4 g4 pc => by
    refine ⟨_, _, _, rfl, k x y p zs H4 (but_free (b2.trans b3) w3 hp) ((b2.trans b3).trans b4) ?_ pa pb g4 pc⟩
    rw [show n + (d1 + d2 + d3) = n + d1 + d2 + d3 by omega]
    exact w4
end
end Bk
namespace Bk
open PySem PySem.Spec PyProof.Rows L2 Evl SX
theorem _root_.L2.Room.units65 {k : Nat} {A : Around} (r : Room k A) : A.units + 65 < cLine := by have := r.un; omega
/-! ### a list or a text; None among data of any depth; a comprehension whose items have each a property -/
section
variable {X : Cx} {K : PySem.W.Frag}
def rLenB (K : PySem.W.Frag) : List V → Hp → VK → Prop := fun xs H Q => rLenS K xs H Q ∨ (∃ z, xs = [V.str z] ∧ z.length ≤ sizeLine ∧ Q (.int z.length) H)
theorem call_lenB (h : X.K = K) : CallR X (.builtin "len") (rLenB K) := (call_lenK h).or call_len_str
def rIxB (K : PySem.W.Frag) : R2 := fun x y H Q => rIxL K x y H Q ∨ rIxS x y H Q
theorem ix_bothK (h : X.K = K) : IxR X (rIxB K) := (ix_listK h).or ix_str
theorem op_inDK (h : X.K = K) (hu : X.A.units + 65 < cLine) : OpR X (compareOp .In) (rInD K) := by
  subst h
  exact op_inD hu
theorem mt_indexDK (h : X.K = K) (hu : X.A.units + 65 < cLine) : MtR X "list.index" (rIndexD K) := by
  subst h
  exact mt_indexD hu
end
section
variable {K : PySem.W.Frag} {σ : L2.St} {H : Hp} {ta tb tc tl te : TE} {tt : TT} {xs : List V} {a : Addr} {d : Nat}
theorem ev_lenBL {p : Addr} (ha : Ev ta σ H (.ref p)) (h : SqL K H p xs) : Ev (tCB (rLenB K) (tCons ta tNil)) σ H (.int (xs.length : Int)) := fun H1 e Q q =>
  ha H1 e _ fun H2 e2 => .inl ⟨p, xs, rfl, .inl (ex_l (e.trans e2) h), q H2 e2⟩
theorem ev_lenBS {l : List Nat} (ha : Ev ta σ H (.str (S l))) (hl : l.length ≤ 16000000) : Ev (tCB (rLenB K) (tCons ta tNil)) σ H (.int (l.length : Int)) := fun H1 e Q q =>
  ha H1 e _ fun H2 e2 => .inr ⟨S l, rfl, by rw [S_len]; show _ ≤ 2 ^ 24; omega, by rw [S_len]; exact q H2 e2⟩
/-- [f(x) for x in a new list], each item with its property -/
theorem elp_lcI {P : Nat → V → Hp → Prop} {j : Nat} {ws : List Nat} (mono : ∀ i v H1 H2, Ex H1 H2 → P i v H1 → P i v H2) (keep : ∀ i v H1 D ys zs, H1 D = some (.lst ys) → P i v H1 → P i v (upd H1 D (.lst zs)))
    (h : EvL tl σ H xs) (hz : xs.length ≤ 40000) (hw : ∀ x, wipe ((wipe σ ws).set j (some x)) ws = wipe σ ws) (he : ∀ (i : Nat) (x : V) H1, Ex H H1 → xs[i]? = some x → EvP te ((wipe σ ws).set j (some x)) H1 (P i)) :
    EvLP (tLc (iList K tl) (gName j) tYes te ws) σ H (fun ys H2 => ys.length = xs.length ∧ ∀ (i : Nat) (v : V), ys[i]? = some v → P i v H2) := fun H0 e Q q =>
  h H0 e _ fun a H1 ha e1 hx => ⟨a, rfl, ⟨xs, sq_of hx⟩, fun Dl hD =>
    lc_list (xs := xs) (fun i H' => Ex H1 H' ∧ ∃ acc : List V, H' Dl = some (.lst acc) ∧ acc.length = i ∧ ∀ (k : Nat) (v : V), acc[k]? = some v → P k v H') ⟨Ex.new hD, [], upd_same, rfl, fun _ _ h => by cases h⟩ (fun i H' _ p => sq_of (p.1 _ _ hx)) (fun i x H' hi p => ⟨hw x, by
      obtain ⟨p1, acc, g, la, pa⟩ := p
      have hi' := (List.getElem?_eq_some_iff.mp hi).1
      refine et_yes (σ := (wipe σ ws).set j (some x)) (H := H') H' (Ex.refl H') _ fun H3 e3 => iteT ?_
      refine he i x H3 (((e.trans e1).trans p1).trans e3) hi H3 (Ex.refl H3) _ fun v H4 e4 pv => ?_
      have e34 := e3.trans e4
      refine ⟨acc, e34 _ _ g, sz_lt (by omega), (p1.trans e34).mut hD, acc ++ [v], upd_same, by rw [List.length_append, la]; rfl, fun k u hk => keep _ _ _ _ _ _ (e34 _ _ g) ?_⟩
      by_cases c : k < acc.length
      · rw [List.getElem?_append_left c] at hk
        exact mono _ _ _ _ e34 (pa k u hk)
      · rw [List.getElem?_append_right (by omega)] at hk
        have k0 : k - acc.length = 0 := by
          have := (List.getElem?_eq_some_iff.mp hk).1
          have e1 : [v].length = 1 := rfl
          omega
        rw [k0] at hk
        cases hk
        have ki : k = i := by omega
        rw [ki]
        exact pv⟩)
    (fun H' ⟨p1, acc, g, la, pa⟩ => q Dl acc H' (fresh_back e1 hD) (e1.trans p1) g ⟨by omega, pa⟩)⟩
end

/-! None among terms -/
section
variable {K : PySem.W.Frag} {σ : L2.St} {H : Hp} {ta tb tl te : TE}
theorem ev_inD {d : PyData} {ds : List PyData} {x : V} (ha : Ev ta σ H x) (hx : ∀ H1, Dp K H1 x d) (hb : EvP tb σ H fun v H1 => Dp K H1 v (.list ds)) (sd : SeqAt.shaped d = true) (ss : SeqAt.shaped (.list ds) = true) : Ev (tOp (rInD K) ta tb) σ H (.bl (ds.any fun z => PyData.eqv z d)) := fun H1 e Q k =>
  ha H1 e _ fun H2 e2 => hb H2 (e.trans e2) _ fun v H3 e3 hv => ⟨d, ds, hx H3, hv, sd, ss, k H3 (e2.trans e3)⟩
theorem ev_indexD {l : Addr} {y : V} {xs : List V} {d z : PyData} {ds : List PyData} {j : Nat} (ha : Ev ta σ H (.ref l)) (g : SqL K H l xs) (hl : DpAll K H xs ds) (hb : Ev tb σ H y) (hy : ∀ H1, Dp K H1 y d) (ss : SeqAt.shaped (.list ds) = true) (sd : SeqAt.shaped d = true) (hj : ds[j]? = some z) (hz : PyData.eqv z d = true) (hn : ∀ (m : Nat) (z' : PyData), m < j → ds[m]? = some z' → PyData.eqv z' d = false) : Ev (tBM K "list" (rIndexD K) ta (tCons tb tNil)) σ H (.int (j : Nat)) := fun H1 e Q q =>
  ha H1 e _ fun H2 e2 => ⟨Or.inl ⟨rfl, _, ex_l (e.trans e2) g⟩, hb H2 (e.trans e2) _ fun H3 e3 => ⟨l, y, d, ds, j, z, rfl, rfl, .lst (ex_l ((e.trans e2).trans e3) g) (DpAll.ex ((e.trans e2).trans e3) ds xs hl), hy H3, ss, sd, hj, hz, hn, q H3 (e2.trans e3)⟩⟩
end
end Bk
namespace Bk
open PySem PySem.Spec PyProof.Rows L2 Evl
/-! ### sorted(e, key=len), e a list of lists -/
section
variable {X : Cx} {pins : List (Addr × Obj)} {σ : L2.St} {H : Hp} {s : Shared}
theorem inv_same (I : Inv X pins σ H s) : ∃ m, s.heap.Ns X.env.locals m ∧ ∀ (h' : Heap) (tk : Nat), h'.Ns X.env.locals m → (∀ b u, b ≠ X.env.locals → s.heap.get? b = some u → h'.get? b = some u) → Inv X pins σ H { s with heap := h', toks := tk } := by
  obtain ⟨m, hn, hl⟩ := I.loc
  refine ⟨m, hn, fun h' tk hn' k => ?_⟩
  have cne := I.cne
  have lt : ∀ {b : Addr} {o : Obj}, X.s_0.heap.get? b = some o → b ≠ X.env.locals := fun e => Nat.ne_of_lt (Nat.lt_of_lt_of_le (Heap.lt_size e) I.ok.above)
  refine ⟨I.ok, I.os, I.bare, ⟨fun b o e n hb hx => k _ _ (lt e) (I.base.keep b o e n hb hx), fun b o e n hb hx => ?_, I.base.free, fun b o e hx => ?_, I.base.tups, I.base.frzs, I.base.tbls⟩, ⟨m, hn', fun j y v' e1 e2 e3 => ?_⟩, fun y c e => ?_, I.free, I.freeC, fun p hp => ?_, fun b ob e => ?_, I.len⟩
  · obtain ⟨sl, e1⟩ := I.base.slot b o e n hb hx
    exact ⟨sl, k _ _ (lt e) e1⟩
  · obtain ⟨o', e1⟩ := I.base.there b o e hx
    exact ⟨o', k _ _ (lt e) e1⟩
  · obtain ⟨u', r', q⟩ := hl j y v' e1 e2 e3
    refine ⟨u', r', ?_⟩
    rcases q with ⟨kk, e⟩ | ⟨kk, c, e, z⟩
    · exact .inl ⟨kk, e⟩
    · obtain ⟨oc, hoc, hd⟩ := z
      exact .inr ⟨kk, c, e, oc, k _ _ (cne y c e) hoc, hd⟩
  · obtain ⟨w', oc, hoc, hd⟩ := I.cell y c e
    exact ⟨w', oc, k _ _ (cne y c e) hoc, hd⟩
  · obtain ⟨e, n, ne, nf, d⟩ := I.pin p hp
    exact ⟨k _ _ ne e, n, ne, nf, d⟩
  · refine (I.hok b ob e).stay (fun c w' hc q => k c _ ?_ q) (fun _ q => q) fun _ _ q => q
    rintro rfl
    have hfree := I.free
    rcases hc with rfl | hc
    · rw [hfree] at e
      cases e
    · rw [hfree] at hc
      cases hc
def newsOf (h : Heap) (L : Addr) : List (Addr × Obj) := (List.range h.objs.size).filterMap fun b => if b = L then none else (h.get? b).map fun o => (b, o)
theorem mem_newsOf {h : Heap} {L b : Addr} {o : Obj} : (b, o) ∈ newsOf h L ↔ h.get? b = some o ∧ b ≠ L := by
  unfold newsOf
  rw [List.mem_filterMap]
  constructor
  · rintro ⟨c, _, e⟩
    by_cases hc : c = L
    · rw [if_pos hc] at e
      cases e
    · rw [if_neg hc] at e
      cases g : h.get? c with
      | none =>
        rw [g] at e
        cases e
      | some u =>
        rw [g] at e
        cases e
        exact ⟨g, hc⟩
  · rintro ⟨e, ne⟩
    refine ⟨b, List.mem_range.mpr (Heap.lt_size e), ?_⟩
    rw [if_neg ne, e]
    rfl
theorem empty_get (a : Addr) : ({} : Heap).get? a = none := by
  show (#[] : Array Obj)[a]? = none
  simp
theorem obj_there {P : Program} {w : World} {h : Heap} {a : Addr} {o : HO} (x : ObjOk P w H h a o) : ∃ u, h.get? a = some u := by
  cases o with
  | lst xs => obtain ⟨_, _, _, _, e⟩ := x; exact ⟨_, e⟩
  | tup xs => obtain ⟨_, _, _, ob, e, _⟩ := x; exact ⟨_, e⟩
  | dK kvs => obtain ⟨_, _, _, _, o, _, _, e, _⟩ := x; exact ⟨_, e⟩
  | dT kvs => obtain ⟨_, _, _, _, o, _, _, e, _⟩ := x; exact ⟨_, e⟩
  | set S n => obtain ⟨o, _, _, _, e, _⟩ := x; exact ⟨_, e⟩
  | ins C dx fs => obtain ⟨_, _, _, e, _⟩ := x; exact ⟨_, e⟩
  | own y => obtain ⟨_, e⟩ := x; exact ⟨_, e⟩
  | xd fs => obtain ⟨_, ⟨_, _, _, e, _⟩, _⟩ := x; exact ⟨_, e⟩
  | rng lo hi => obtain ⟨_, _, _, e⟩ := x; exact ⟨_, e⟩
  | frz ob u => obtain ⟨e, _⟩ := x; exact ⟨_, e⟩
  | tbl ps => exact ⟨_, show h.get? a = some _ from x⟩
  | met f y => exact ⟨_, show h.get? a = some _ from x⟩
  | ext φ => obtain ⟨_, ⟨_, e⟩, _⟩ := x; exact ⟨_, e⟩
/-- a list that nobody tracks is taken up -/
theorem adoptL {a : Addr} {xs : List V} {its : List Value} {n : Nat} (I : Inv X pins σ H s) (ha : s.heap.get? a = some (seqObj "list" its.toArray n)) (hz : xs.length ≤ sizeLine) (r : Vals xs its) (na : H a = none) (n0 : X.s_0.heap.get? a = none) (nL : a ≠ X.env.locals)
    (nP : ∀ p ∈ X.pn ++ pins, p.1 ≠ a) : Inv X pins σ (upd H a (.lst xs)) s := by
  have ne : ∀ {b : Addr} {o : HO}, H b = some o → b ≠ a := fun q => ne_of_none q na
  refine ⟨I.ok, I.os, I.bare, ⟨I.base.keep, I.base.slot, fun b o q n x => ?_, I.base.there, fun b xs q => ?_, fun b o u q => ?_, fun b ps q => ?_⟩, I.loc, I.cell, ?_, fun x c h => ?_, fun p hp => ?_, fun b o q => ?_, I.len⟩
  · rw [upd_ne fun z => by rw [z, n0] at q; cases q]
    exact I.base.free b o q n x
  · have r := I.base.tups b xs q
    rw [upd_ne (ne r)]
    exact r
  · have r := I.base.frzs b o u q
    rw [upd_ne (ne r)]
    exact r
  · obtain ⟨more, r⟩ := I.base.tbls b ps q
    exact ⟨more, by rw [upd_ne (ne r)]; exact r⟩
  · rw [upd_ne nL.symm]
    exact I.free
  · obtain ⟨v, o, ho, hv⟩ := I.cell x c h
    rw [upd_ne fun z => by
      rw [z, ha] at ho
      cases ho
      cases hv]
    exact I.freeC x c h
  · obtain ⟨p1, p2, p3⟩ := I.pin p hp
    exact ⟨p1, by rw [upd_ne (nP p hp)]; exact p2, p3⟩
  · by_cases c : b = a
    · subst c
      rw [upd_same] at q
      cases q
      exact ⟨hz, its, n, r, ha⟩
    · rw [upd_ne c] at q
      exact (I.hok b o q).stay (fun _ _ _ r => r) (fun e r => by rw [upd_ne (ne r)]; exact r) fun e xs r => by rw [upd_ne (ne r)]; exact r
theorem vals_refs : ∀ {as : List Addr} {us : List Value}, Vals (as.map V.ref) us → us = as.map Value.ref
  | [], _, r => by cases r; rfl
  | a :: as, _, r => by
    cases r with
    | cons x y =>
      obtain rfl : _ = Value.ref a := x
      rw [List.map_cons, vals_refs y]
theorem refs_vals : ∀ {as : List Addr}, Vals (as.map V.ref) (as.map Value.ref)
  | [] => .nil
  | a :: as => .cons rfl refs_vals
def adOf : Value → Addr
  | .ref a => a
  | _ => 0
end
def tSortLen (K : PySem.W.Frag) (te : TE) : TE := fun σ H Q => te σ H fun x H1 => ∃ (a : Addr) (as : List Addr) (ns : List Nat), x = .ref a ∧ SqL K H1 a (as.map V.ref) ∧ ns.length = as.length ∧
  (∀ (i : Nat) (b : Addr) (n : Nat), as[i]? = some b → ns[i]? = some n → ∃ xs, SqL K H1 b xs ∧ xs.length = n) ∧
  ∀ (ps : List (Int × Addr)) p, ps.Perm ((ns.map Int.ofNat).zip as) → ps.Pairwise (fun p q => p.1 ≤ q.1) → H1 p = none → Q (.ref p) (upd H1 p (.lst (ps.map fun q => V.ref q.2)))
section
variable {X : Cx} {K : PySem.W.Frag} {e : Expr} {te : TE} {p p2 kp pos : Pos}
theorem pe_sortLen (hX : X.K = K) (hex : X.ex = []) (hg : Gl X "sorted") (hm : X.mg "sorted" = none) (hg2 : Gl X "len") (hm2 : X.mg "len" = none) (he : PE X e te)
    (hst : starEach [e] X.env = (false, eval e X.env) :: starEach [] X.env := by rfl) (hbk : backTo pos (starEach [e] X.env) = (false, eval e X.env) :: backTo pos (starEach [] X.env) := by rfl) (hpl : (backTo pos (starEach [e] X.env)).any (·.1) = false := by rfl) :
    PE X (.Call (.Name "sorted" p) [e] [⟨some "key", .Name "len" p2, kp⟩] pos) (tSortLen K te) := by
  subst hX
  refine ⟨fun pins s σ H Q I h => ?_⟩
  refine wpAny_Call_Name_kw (ld_blt I hg hm (u := .builtin "sorted") rfl ?_ (by decide) (by decide))
  have ha := (pa_cons he pa_nil hst).run pos pins s σ H (fun vs H1 => match vs with
    | [x] => ∃ (a : Addr) (as : List Addr) (ns : List Nat), x = .ref a ∧ SqL X.K H1 a (as.map V.ref) ∧ ns.length = as.length ∧
    (∀ (i : Nat) (b : Addr) (n : Nat), as[i]? = some b → ns[i]? = some n → ∃ xs, SqL X.K H1 b xs ∧ xs.length = n) ∧
    ∀ (ps : List (Int × Addr)) p, ps.Perm ((ns.map Int.ofNat).zip as) → ps.Pairwise (fun p q => p.1 ≤ q.1) → H1 p = none → Q (.ref p) (upd H1 p (.lst (ps.map fun q => V.ref q.2)))
    | _ => False) I h
  refine PyProof.Rows.callWith_kw (thn ha fun us s1 ⟨vs, H1, I1, r1, q0⟩ => ?_) hbk hpl rfl rfl
  obtain ⟨x, rfl, a, as, ns, ex, hs, hl, hb, q⟩ : ∃ x, vs = [x] ∧ ∃ (a : Addr) (as : List Addr) (ns : List Nat), x = .ref a ∧ SqL X.K H1 a (as.map V.ref) ∧ ns.length = as.length ∧ (∀ (i : Nat) (b : Addr) (n : Nat), as[i]? = some b → ns[i]? = some n → ∃ xs, SqL X.K H1 b xs ∧ xs.length = n) ∧ ∀ (ps : List (Int × Addr)) p, ps.Perm ((ns.map Int.ofNat).zip as) → ps.Pairwise (fun p q => p.1 ≤ q.1) → H1 p = none → Q (.ref p) (upd H1 p (.lst (ps.map fun q => V.ref q.2))) := by
    match vs, q0 with
    | [x], q0 => exact ⟨x, rfl, q0⟩
  subst ex
  obtain rfl := Vals.ref1 r1
  show wpAny _ _ (evalAll [do let v ← eval (.Name "len" p2) X.env; standAt pos; pure v]) _ _ _
  refine wpAny_evalAll_cons (wpAny_bind (ld_blt I1 hg2 hm2 (u := .builtin "len") rfl (wpAny_bind (wpAny_standAt (wpAny_pure ?_))) (by decide) (by decide)))
  refine wpAny_evalAll_nil ?_
  show wpAny _ _ (call (.builtin "sorted") [.ref a] [(Str.ofString "key", .builtin "len")]) _ _ _
  obtain ⟨its, rv, pl, hz⟩ := I1.list hs
  obtain ⟨m, hn, keep⟩ := inv_same I1
  have hlen := rv.length
  rw [List.length_map] at hlen hz
  have F0 : Fr {} X.env.locals s1.heap m := ⟨hn, fun b o e => (by rw [empty_get] at e; cases e), Nat.zero_le _⟩
  have N0 : News {} X.env.locals s1.heap (newsOf s1.heap X.env.locals) := fun q hq => by
    obtain ⟨b, o⟩ := q
    obtain ⟨h1, h2⟩ := mem_newsOf.mp hq
    exact ⟨h1, h2, empty_get _⟩
  have item : ∀ (i : Nat) (v : Value), its[i]? = some v → ∃ b, as[i]? = some b ∧ v = .ref b := fun i v hv => by
    have hi := (List.getElem?_eq_some_iff.mp hv).1
    have ga : as[i]? = some (as[i]'(by omega)) := List.getElem?_eq_getElem _
    obtain ⟨u, hu, ru⟩ := rv.get (i := i) (x := .ref (as[i]'(by omega))) (by rw [List.getElem?_map, ga]; rfl)
    rw [hv] at hu
    cases hu
    exact ⟨_, ga, ru⟩
  refine ksk_sortedSt (kz := ns.map Int.ofNat) (b := false) F0 N0 pl.isList (by rw [List.length_map]; omega) (by omega) (ksk_s1 _ _) (fun _ => ksk_l1 _ _) (fun x => ksk_t4 _ _) (fun i v k hv hk h tk own F' N' => ?_) fun D h' tk out c F' N' l1 ko => ?_
  · obtain ⟨b, gb, rfl⟩ := item i v hv
    rw [List.getElem?_map] at hk
    cases gn : ns[i]? with
    | none =>
      rw [gn] at hk
      cases hk
    | some n =>
      rw [gn] at hk
      cases hk
      obtain ⟨xs, hxs, lx⟩ := hb i b n gb gn
      obtain ⟨jts, rj, ⟨o, nn, g, c1, c2, c3⟩, hzj⟩ := I1.list hxs
      have nb : b ≠ X.env.locals := by
        rcases hxs with hh | ⟨ob, _, _, hk, _⟩
        · rintro rfl
          rcases hh with hh | ⟨_, hh⟩
          all_goals (rw [I1.free] at hh; cases hh)
        · exact Nat.ne_of_lt (Nat.lt_of_lt_of_le (Heap.lt_size (I1.ok.bs _ _ (I1.ok.mod.kin _ _ hk)).1) I1.ok.above)
      have g' : h.get? b = some o := (N' (b, o) (List.mem_append_left _ (mem_newsOf.mpr ⟨g, nb⟩))).1
      have il : Heap.IsList h b jts.toArray := ⟨o, g', c1, nn, c3⟩
      have hn63 := line63
      have lj := rj.length
      refine Calls.call_len_list (s := { s1 with heap := h, toks := tk }) il (by simp only [List.size_toArray]; omega) ?_
      refine ⟨h, _, tk + 1, rfl, ?_, F', N'⟩
      show Value.int ((jts.toArray.size : Nat) : Int) (tk + 1) = _
      rw [List.size_toArray, ← lj, lx]
      rfl
  · obtain ⟨ps, hp, ho, hw, _⟩ := ko
    have ei := vals_refs rv
    subst ei
    have nD := N' (D, seqObj "list" out c) (List.mem_cons_self ..)
    have I2 := keep h' tk F'.ns fun b u ne e => (N' (b, u) (List.mem_cons_of_mem _ (mem_newsOf.mpr ⟨e, ne⟩))).1
    have old : ∀ {b : Addr} {o : Obj}, s1.heap.get? b = some o → b ≠ D := fun {b o} e z => by
      by_cases hb : b = X.env.locals
      · exact nD.2.1 (z.symm.trans hb)
      · have := l1 _ (mem_newsOf.mpr ⟨e, hb⟩)
        rw [z] at this
        exact absurd this (Nat.lt_irrefl _)
    have na : H1 D = none := by
      cases g : H1 D with
      | none => rfl
      | some o =>
        obtain ⟨u, hu⟩ := obj_there (I1.hok D o g)
        exact absurd rfl (old hu)
    have n0 : X.s_0.heap.get? D = none := by
      cases g : X.s_0.heap.get? D with
      | none => rfl
      | some o =>
        obtain ⟨u, hu⟩ := I1.base.there D o g (by rw [hex]; exact fun z => nomatch z)
        exact absurd rfl (old hu)
    have snd : ∀ q ∈ ps, ∃ b, q.2 = .ref b := fun q hq => by
      have := hp.mem_iff.mp hq
      have := (List.of_mem_zip this).2
      obtain ⟨b, _, e⟩ := List.mem_map.mp this
      exact ⟨b, e.symm⟩
    have eo : out = ((ps.map fun q => (q.1, adOf q.2)).map fun q => Value.ref q.2).toArray := by
      rw [← Array.toArray_toList (xs := out), ho, List.map_map]
      congr 1
      refine List.map_congr_left fun q hq => ?_
      obtain ⟨b, e⟩ := snd q hq
      show q.2 = Value.ref (adOf q.2)
      rw [e]
      rfl
    have pz : (ps.map fun q => (q.1, adOf q.2)).Perm ((ns.map Int.ofNat).zip as) := by
      refine (hp.map _).trans (List.Perm.of_eq ?_)
      rw [List.zip_map_right, List.map_map]
      exact List.map_id' _
    have lp : ps.length = as.length := by
      have := hp.length_eq
      rw [List.length_zip, List.length_map, List.length_map] at this
      omega
    have I3 := adoptL (xs := (ps.map fun q => (q.1, adOf q.2)).map fun q => V.ref q.2) (its := (ps.map fun q => (q.1, adOf q.2)).map fun q => Value.ref q.2) I2 (by rw [← eo]; exact nD.1) (by rw [List.length_map, List.length_map]; omega) (by
      have := refs_vals (as := (ps.map fun q => (q.1, adOf q.2)).map fun q => q.2)
      rw [List.map_map, List.map_map (g := Value.ref)] at this
      exact this) na n0 nD.2.1 (fun p hp z => by
      obtain ⟨e, _⟩ := I1.pin p hp
      exact old e z)
    exact ⟨.ref D, _, I3, rfl, q _ D pz (by
      rw [List.pairwise_map]
      exact hw) na⟩
end
end Bk
namespace Bk
open PySem PySem.Spec PyProof.Rows L2 Evl
/-! ### list(d.items()) -/
section
variable {X : Cx} {pins : List (Addr × Obj)} {σ : L2.St} {H : Hp} {s : Shared}
/-- an object that nobody tracks is taken up -/
theorem adoptX {a : Addr} {u : HO} {o0 : Obj} (I : Inv X pins σ H s) (ha : s.heap.get? a = some o0) (hc : ∀ v, o0.data ≠ .cell v) (ok : ObjOk X.prog X.w (upd H a u) s.heap a u) (na : H a = none) (n0 : X.s_0.heap.get? a = none) (nL : a ≠ X.env.locals)
    (nP : ∀ p ∈ X.pn ++ pins, p.1 ≠ a) : Inv X pins σ (upd H a u) s := by
  have ne : ∀ {b : Addr} {o : HO}, H b = some o → b ≠ a := fun q => ne_of_none q na
  refine ⟨I.ok, I.os, I.bare, ⟨I.base.keep, I.base.slot, fun b o q n x => ?_, I.base.there, fun b xs q => ?_, fun b o u q => ?_, fun b ps q => ?_⟩, I.loc, I.cell, ?_, fun x c h => ?_, fun p hp => ?_, fun b o q => ?_, I.len⟩
  · rw [upd_ne fun z => by rw [z, n0] at q; cases q]
    exact I.base.free b o q n x
  · have r := I.base.tups b xs q
    rw [upd_ne (ne r)]
    exact r
  · have r := I.base.frzs b o u q
    rw [upd_ne (ne r)]
    exact r
  · obtain ⟨more, r⟩ := I.base.tbls b ps q
    exact ⟨more, by rw [upd_ne (ne r)]; exact r⟩
  · rw [upd_ne nL.symm]
    exact I.free
  · obtain ⟨v, o, ho, hv⟩ := I.cell x c h
    rw [upd_ne fun z => by
      rw [z, ha] at ho
      cases ho
      exact hc _ hv]
    exact I.freeC x c h
  · obtain ⟨p1, p2, p3⟩ := I.pin p hp
    exact ⟨p1, by rw [upd_ne (nP p hp)]; exact p2, p3⟩
  · by_cases c : b = a
    · subst c
      rw [upd_same] at q
      cases q
      exact ok
    · rw [upd_ne c] at q
      exact (I.hok b o q).stay (fun _ _ _ r => r) (fun e r => by rw [upd_ne (ne r)]; exact r) fun e xs r => by rw [upd_ne (ne r)]; exact r
/-- new pairs beyond a bound are taken up, one by one -/
theorem adoptPairs {n : Nat} (hs : X.s_0.heap.objs.size ≤ n) (hL : X.env.locals < n) (hP : ∀ p ∈ X.pn ++ pins, p.1 < n) : ∀ (ts : List Addr) (es : List (V × V)) (H : Hp), Inv X pins σ H s → (∀ a, n ≤ a → H a = none ∨ a ∉ ts) → ts.length = es.length → ts.Nodup → (∀ a ∈ ts, n ≤ a) →
    (∀ (i : Nat) a e, ts[i]? = some a → es[i]? = some e → ∃ u v, RelV e.1 u ∧ RelV e.2 v ∧ s.heap.get? a = some { cls := .type "tuple", data := .seq #[u, v] }) →
    ∃ H', Inv X pins σ H' s ∧ (∀ a, a ∉ ts → H' a = H a) ∧ ∀ (i : Nat) a e, ts[i]? = some a → es[i]? = some e → H' a = some (.tup [e.1, e.2])
  | [], es, H, I, _, _, _, _, _ => ⟨H, I, fun _ _ => rfl, fun i a e h => nomatch h⟩
  | t :: ts, [], H, I, _, l, _, _, _ => by cases l
  | t :: ts, e :: es, H, I, fr, l, nd, up, at' => by
    obtain ⟨u, v, ru, rv, g⟩ := at' 0 t e rfl rfl
    have nt := up t (List.mem_cons_self ..)
    have na : H t = none := (fr t nt).resolve_right fun z => z (List.mem_cons_self ..)
    have nd' := List.nodup_cons.mp nd
    have I1 := adoptX (u := .tup [e.1, e.2]) I g (fun v z => by cases z) ⟨by show 2 ≤ sizeLine; decide, [u, v], .cons ru (.cons rv .nil), ⟨_, g, rfl, _, rfl⟩⟩ na (by
      cases k : X.s_0.heap.get? t with
      | none => rfl
      | some o => exact absurd (Nat.lt_of_lt_of_le (Heap.lt_size k) (Nat.le_trans hs nt)) (Nat.lt_irrefl _)) (Nat.ne_of_gt (Nat.lt_of_lt_of_le hL nt)) (fun p hp => Nat.ne_of_lt (Nat.lt_of_lt_of_le (hP p hp) nt))
    obtain ⟨H', I', h1, h2⟩ := adoptPairs hs hL hP ts es _ I1 (fun a ha => by
      by_cases c : a = t
      · right
        rw [c]
        exact nd'.1
      · rw [upd_ne c]
        rcases fr a ha with z | z
        · exact .inl z
        · exact .inr fun m => z (List.mem_cons_of_mem _ m)) (by simpa using l) nd'.2 (fun a ha => up a (List.mem_cons_of_mem _ ha)) fun i a e' x y => at' (i + 1) a e' x y
    refine ⟨H', I', fun a ha => ?_, fun i a e' x y => ?_⟩
    · rw [h1 a fun m => ha (List.mem_cons_of_mem _ m), upd_ne fun z => ha (by rw [z]; exact List.mem_cons_self ..)]
    · cases i with
      | zero =>
        cases x
        cases y
        rw [h1 t nd'.1, upd_same]
      | succ i => exact h2 i a e' x y
end
def tListItems (td : TE) : TE := fun σ H Q => td σ H fun x H1 => ∃ (d : Addr) (kvs : List (Key × V)), x = .ref d ∧ H1 d = some (.dK kvs) ∧ ∀ (p : Addr) (ts : List Addr) (H2 : Hp), H1 p = none → Ex H1 H2 → H2 p = some (.lst (ts.map V.ref)) → ts.length = kvs.length →
  (∀ (i : Nat) (t : Addr) (e : Key × V), ts[i]? = some t → kvs[i]? = some e → H2 t = some (.tup [kV e.1, e.2])) → (∀ t ∈ ts, H1 t = none) → Q (.ref p) H2
section
variable {X : Cx} {e : Expr} {td : TE} {p apos cpos pos : Pos}
theorem pe_listItems (hex : X.calm = true) (hg : Gl X "list") (hm : X.mg "list" = none) (he : PE X e td) (hbase : attributeBase e "items" X.env (eval e X.env) = eval e X.env := by rfl) (hline : (apos.endLine == cpos.line) = true := by rfl)
    (hst : starEach [.Call (.Attribute e "items" apos) [] [] cpos] X.env = (false, eval (.Call (.Attribute e "items" apos) [] [] cpos) X.env) :: starEach [] X.env := by rfl) :
    PE X (.Call (.Name "list" p) [.Call (.Attribute e "items" apos) [] [] cpos] [] pos) (tListItems td) := by
  refine ⟨fun pins s σ H Q I h => ?_⟩
  refine wpAny_Call_Name_kw (ld_blt I hg hm (u := .type "list") rfl ?_ (by decide) (by decide))
  refine PyProof.Rows.callWith_type1 ?_ hst rfl
  rw [hst]
  refine Calls.spliced_cons ?_
  refine wpAny_Call_method (T := "dict") (id := "dict.items") hbase rfl hline PySem.F.plainAttrs_dict PySem.F.slot_dict_items PySem.F.type_dict_items (thn (he.run pins s σ H _ I h) fun u s1 ⟨x, H1, I1, rx, d, kvs, ex, hd, q⟩ => ?_)
  subst ex
  obtain rfl : u = Value.ref d := rx
  obtain ⟨hz, hsys, vs, kv, dd⟩ := dk_of I1.hok hd
  refine ⟨dd.typeIs, dd.mapOf.noDict, ?_⟩
  show wpAny _ _ (callWith cpos (.builtin "dict.items") [.ref d] [] []) _ X.xe s1
  refine method_meetsIn PySem.F.slot_dict_items PySem.F.entry_dict_items rfl (PySem.evalArgs_none ⟨rfl, dd.typeIs, PySem.F.args_dict_items_1 _, _, meets_dict_items (mixKind X.prog X.w) d hsys, ⟨vs, dd⟩, ?_⟩)
  refine Calls.spliced_nil ?_
  have I2 : Inv X pins σ H1 { s1 with heap := s1.heap.push { cls := .type "dict_items", data := .fields #[.ref d] } } := I1.kept (t' := s1.toks) fun b ob q => Heap.get?_push_of_some _ q
  have hl : kvs.length = vs.length := Paired.length kv
  obtain ⟨ep, da⟩ := (dd.push { cls := .type "dict_items", data := .fields #[.ref d] }).dictAt
  refine PySem.W.kdx_call (knd := mixKind X.prog X.w) (kvs := vs) (ep := ep) (I2.ok.hd hex) ⟨_, Heap.get?_push_size _ rfl, rfl, rfl⟩ da (by rw [← hl]; exact hz) fun h' tk acc c as hk hS hla hG hacc => ?_
  have I3 : Inv X pins σ H1 { s1 with heap := h', toks := tk } := I2.kept hk
  generalize hsz : (s1.heap.push { cls := .type "dict_items", data := .fields #[.ref d] }).objs.size = S at *
  have hS0 : s1.heap.objs.size ≤ S := by rw [← hsz, size_push']; exact Nat.le_succ _
  have hloc : X.env.locals < S := by
    obtain ⟨m, hn, _⟩ := I1.loc
    exact Nat.lt_of_lt_of_le hn.lt hS0
  have hab : X.s_0.heap.objs.size ≤ S := Nat.le_trans I1.ok.above (Nat.le_of_lt hloc)
  have hpin : ∀ p ∈ X.pn ++ pins, p.1 < S := fun p hp => Nat.lt_of_lt_of_le (Heap.lt_size (I1.pin p hp).1) hS0
  have fr : ∀ a, S ≤ a → H1 a = none := fun a ha => I1.hok.fresh (Nat.le_trans hS0 ha)
  have rise := hG.rise
  have above := hG.above
  obtain ⟨H', I4, k1, k2⟩ := adoptPairs (s := { s1 with heap := h', toks := tk }) hab hloc hpin as (kvs.map fun e => (kV e.1, e.2)) H1 I3 (fun a ha => .inl (fr a ha)) (by rw [List.length_map, hla, hl]) (rise.imp fun h => Nat.ne_of_lt h) (fun a ha => Nat.le_of_lt (above a ha)) (fun i a e ga ge => by
    rw [List.getElem?_map] at ge
    cases gk : kvs[i]? with
    | none =>
      rw [gk] at ge
      cases ge
    | some z =>
      obtain ⟨k, v⟩ := z
      rw [gk] at ge
      cases ge
      obtain ⟨key, k', x, hv', hkey, ht⟩ := hG.pairs i a ga
      obtain ⟨u, hu, ru⟩ := kv_get kv gk
      rw [hu] at hv'
      cases hv'
      exact ⟨key, _, relV_key (show keyIs _ key = true from hkey), ru, ht⟩)
  have nS : S ∉ as := fun m => Nat.lt_irrefl _ (above S m)
  have I5 := adoptL (xs := as.map V.ref) (its := as.map Value.ref) (n := c) I4 (by
    rw [← hacc, Array.toArray_toList]
    exact hS) (by rw [List.length_map, hla, ← hl]; exact hz) refs_vals (by rw [k1 S nS]; exact fr S (Nat.le_refl _)) (by
      cases k : X.s_0.heap.get? S with
      | none => rfl
      | some o => exact absurd (Nat.lt_of_lt_of_le (Heap.lt_size k) hab) (Nat.lt_irrefl _)) (Nat.ne_of_gt hloc) (fun p hp => Nat.ne_of_lt (hpin p hp))
  refine ⟨.ref S, _, I5, rfl, q S as _ (fr S (Nat.le_refl _)) (fun a u hu => ?_) upd_same (by rw [hla, hl]) (fun i t e gt ge => ?_) (fun t ht => fr t (Nat.le_of_lt (above t ht)))⟩
  · have na : a ∉ as := fun m => by
      rw [fr a (Nat.le_of_lt (above a m))] at hu
      cases hu
    have nz : a ≠ S := fun z => by
      rw [z, fr S (Nat.le_refl _)] at hu
      cases hu
    rw [upd_ne nz, k1 a na]
    exact hu
  · rw [upd_ne fun z => nS (by rw [← z]; exact List.mem_of_getElem? gt)]
    exact k2 i t (kV e.1, e.2) gt (by rw [List.getElem?_map, ge]; rfl)
/-! ### min(xs, default=None) of an empty list -/
def rMinNone (K : PySem.W.Frag) : List V → List V → Hp → VK → Prop := fun vs zs H Q => ∃ (a : Addr), vs = [V.ref a] ∧ zs = [.non] ∧ SqL K H a [] ∧ Q .non H
theorem cr_minNone {K : PySem.W.Frag} (hX : X.K = K) (hc : X.calm = true) (hu : X.A.units + 1 < cLine) : CallRK X (.builtin "min") [Str.ofString "default"] (rMinNone K) := by
  subst hX
  intro pins s σ H vs zs us ws Q I r rz h
  obtain ⟨a, rfl, rfl, hs, q⟩ := h
  obtain rfl := Vals.ref1 r
  obtain ⟨w1, rfl, e1⟩ := vals1 rz
  obtain rfl : w1 = Value.none := e1
  obtain ⟨its, rv, hl, _⟩ := I.list hs
  cases rv
  exact PySem.W.min_list_default (xs := []) (as := []) (I.ok.hd hc) hl.isList .nil ⟨(fun _ h => nomatch h), (fun _ h => nomatch h)⟩ (by show _ + 1 + 0 < _; omega) (fun _ h' tk hk => ⟨.non, H, I.kept hk, rfl, q⟩) fun y ys i v h' tk bs e => nomatch e
/-! ### len(d) -/
def rLenD : List V → Hp → VK → Prop := fun xs H Q => ∃ (a : Addr) (kvs : List (Key × V)), xs = [V.ref a] ∧ Rd H a (.dK kvs) ∧ Q (.int (kvs.length : Nat)) H
theorem call_lenD : CallR X (.builtin "len") rLenD := by
  intro pins s σ H xs us Q I r h
  obtain ⟨a, kvs, rfl, hd, q⟩ := h
  obtain rfl := Vals.ref1 r
  exact d_len I hd fun t s' I' => ⟨.int _, H, I', ⟨t, rfl⟩, q⟩
end
/-! ### dicts walked -/
section
variable {K : PySem.W.Frag} {σ : L2.St} {H : Hp} {te td tk tv : TE} {tt : TT} {d : Addr} {kvs : List (Key × V)}
/-- H with the dict at d locked -/
def frz (H : Hp) (d : Addr) (od : Obj) (kvs : List (Key × V)) : Hp := upd H d (.frz od (.dK kvs))
theorem unfrz {H H' : Hp} {od : Obj} (g : H d = some (.dK kvs)) (e : Ex (frz H d od kvs) H') : Ex H (upd H' d (.dK kvs)) := fun a u h => by
  by_cases c : a = d
  · subst c
    rw [g] at h
    cases h
    exact upd_same
  · rw [upd_ne c]
    exact e a u (by unfold frz; rw [upd_ne c]; exact h)
theorem ix_pairK {i : Nat} {e : Key × V} {x y : V} (h : kvs[i]? = some e) (hx : (kvs[i]?.map fun kv => kV kv.1) = some x) (hy : (kvs[i]?.map Prod.snd) = some y) : x = kV e.1 ∧ y = e.2 := by
  rw [h] at hx hy
  cases hx
  cases hy
  exact ⟨rfl, rfl⟩
/-- [e for k, v in d.items() if ..] of pure parts -/
theorem el_lcIt {i j m : Nat} {ws : List Nat} (f : Nat → Bool) (v : Nat → V) (hd : σ[m]? = some (some (.ref d))) (g : H d = some (.dK kvs)) (hz : kvs.length ≤ 40000) (hw : ∀ x y, wipe (((wipe σ ws).set i (some x)).set j (some y)) ws = wipe σ ws)
    (ht : ∀ (n : Nat) e H1, kvs[n]? = some e → EvT tt (((wipe σ ws).set i (some (kV e.1))).set j (some e.2)) H1 (f n)) (he : ∀ (n : Nat) e H1, kvs[n]? = some e → f n = true → Ev te (((wipe σ ws).set i (some (kV e.1))).set j (some e.2)) H1 (v n)) :
    EvL (tLockE (tLc (iItems (tVar m)) (g2 K i j) tt te ws)) σ H (given kvs.length f v) := fun H1 e Q q => ⟨d, .dK kvs, e _ _ g, True.intro, fun od => ⟨.ref d, hd, d, od, kvs, rfl, upd_same, fun Dl hD => by
    have hDd : Dl ≠ d := fun z => by
      rw [z, upd_same] at hD
      cases hD
    refine lc_it (walk_items (d := d) (o := od) (kvs := kvs)) (fun n H' => Cw (frz H1 d od kvs) f v Dl n H') ⟨hD, Ex.new hD, upd_same⟩ (fun n H' _ p => p.2.1 _ _ upd_same) (fun n x H' H'' hn p y => ?_) (fun H' p => ⟨p.2.1 _ _ upd_same, q Dl _ ?_ (unfrz (e _ _ g) p.2.1) ?_⟩)
    · obtain ⟨T, x1, y1, rfl, hT, rfl, hx, hy⟩ := y
      have gn := List.getElem?_eq_getElem hn
      obtain ⟨rfl, rfl⟩ := ix_pairK gn hx hy
      refine g2_go upd_same ⟨hw _ _, ?_⟩
      obtain ⟨p1, p2, p3⟩ := p
      have nT : Dl ≠ T := fun z => by
        rw [← z, p3] at hT
        cases hT
      exact cw_turn (H := frz H1 d od kvs) ⟨p1, p2.trans (Ex.new hT), by rw [upd_ne nT]; exact p3⟩ (by omega) (ht n _ _ gn) (fun hf => he n _ _ gn hf)
    · rw [upd_ne hDd] at hD
      exact hD
    · rw [upd_ne hDd]
      exact p.2.2⟩⟩
/-- [e for k in d] of pure parts -/
theorem el_lcKy {i m : Nat} {ws : List Nat} (f : Nat → Bool) (v : Nat → V) (hd : σ[m]? = some (some (.ref d))) (g : H d = some (.dK kvs)) (hz : kvs.length ≤ 40000) (hw : ∀ x, wipe ((wipe σ ws).set i (some x)) ws = wipe σ ws)
    (ht : ∀ (n : Nat) e H1, kvs[n]? = some e → EvT tt ((wipe σ ws).set i (some (kV e.1))) H1 (f n)) (he : ∀ (n : Nat) e H1, kvs[n]? = some e → f n = true → Ev te ((wipe σ ws).set i (some (kV e.1))) H1 (v n)) :
    EvL (tLockE (tLc (iKeys (tVar m)) (gName i) tt te ws)) σ H (given kvs.length f v) := fun H1 e Q q => ⟨d, .dK kvs, e _ _ g, True.intro, fun od => ⟨.ref d, hd, d, od, rfl, .inl ⟨kvs, upd_same, fun Dl hD => by
    have hDd : Dl ≠ d := fun z => by
      rw [z, upd_same] at hD
      cases hD
    refine lc_it (walk_keys (d := d) (o := od) (kvs := kvs)) (fun n H' => Cw (frz H1 d od kvs) f v Dl n H') ⟨hD, Ex.new hD, upd_same⟩ (fun n H' _ p => p.2.1 _ _ upd_same) (fun n x H' H'' hn p y => ?_) (fun H' p => ⟨p.2.1 _ _ upd_same, q Dl _ ?_ (unfrz (e _ _ g) p.2.1) ?_⟩)
    · obtain ⟨rfl, k, v1, gk, rfl⟩ := y
      exact ⟨hw _, cw_turn (H := frz H1 d od kvs) p (by omega) (ht n _ _ gk) (fun hf => he n _ _ gk hf)⟩
    · rw [upd_ne hDd] at hD
      exact hD
    · rw [upd_ne hDd]
      exact p.2.2⟩⟩⟩
def RetDk (kvs : List (Key × V)) (H : Hp) (Q : VK) : Prop := ∀ p H2, H p = none → Ex H H2 → H2 p = some (.dK kvs) → Q (.ref p) H2
def EvDk (te : TE) (σ : L2.St) (H : Hp) (kvs : List (Key × V)) : Prop := ∀ H1, Ex H H1 → ∀ Q : VK, RetDk kvs H1 Q → te σ H1 Q
def SpDk (sp : Sp) (vs : List V) (H : Hp) (kvs : List (Key × V)) : Prop := ∀ H1, Ex H H1 → ∀ Q : VK, RetDk kvs H1 Q → ∀ E : XK, sp vs H1 Q E
theorem dc_it {J : It} {n : Nat} {G : Hp → Prop} {Y : Nat → Hp → V → Hp → Prop} (w : Walk J n G Y) {g : TG} {ws : List Nat} {H1 : Hp} {D : Addr} {Qd : Hp → Prop} (Pv : Nat → Hp → Prop) (h0 : Pv 0 (upd H1 D (.dK []))) (hG : ∀ i H, i ≤ n → Pv i H → G H)
    (hs : ∀ i x H H', i < n → Pv i H → Y i H x H' → g x (wipe σ ws) H' fun σ2 H2 => wipe σ2 ws = wipe σ ws ∧ tt σ2 H2 fun b H3 =>
      if b = true then tk σ2 H3 fun y H4 => tv σ2 H4 fun z H5 => ∃ kvs k, y = kV k ∧ H5 D = some (.dK kvs) ∧ kvs.length < sizeLine ∧ Pv (i + 1) (upd H5 D (.dK (putK kvs k z))) else Pv (i + 1) H3) (hd : ∀ H, Pv n H → Qd H) :
    ∃ W : Nat → Nat → Hp → Prop, (∃ m, W 0 m (upd H1 D (.dK []))) ∧ ∀ i m H, W i m H →
      (J.stop i H ∧ Qd H) ∨ (J.go i H ∧ ∃ Nx : Hp → Prop, (∀ H', Nx H' → ∃ m', m' < m ∧ W (i + 1) m' H') ∧ ∀ x H', J.yld i H x H' → g x (wipe σ ws) H' fun σ2 H2 => wipe σ2 ws = wipe σ ws ∧ tt σ2 H2 fun b H3 =>
        if b = true then tk σ2 H3 fun y H4 => tv σ2 H4 fun z H5 => ∃ kvs k, y = kV k ∧ H5 D = some (.dK kvs) ∧ kvs.length < sizeLine ∧ Nx (upd H5 D (.dK (putK kvs k z))) else Nx H3) := by
  refine ⟨fun i m H => m = n - i ∧ i ≤ n ∧ Pv i H, ⟨n, by simp, Nat.zero_le _, h0⟩, ?_⟩
  rintro i m H ⟨rfl, hi, p⟩
  have q := hG i H hi p
  by_cases hlt : i < n
  · refine .inr ⟨w.goes i H hlt q, Pv (i + 1), fun H' p' => ⟨n - (i + 1), by omega, rfl, hlt, p'⟩, fun x H' y => hs i x H H' hlt p (w.yields i H x H' hlt q y)⟩
  · have e : i = n := by omega
    subst e
    exact .inl ⟨w.stops H q, hd H p⟩
theorem valV_no {l : List (Key × V)} {k : Key} (h : ∀ e ∈ l, e.1 ≠ k) : valV l k = none := by
  induction l with
  | nil => rfl
  | cons a l ih =>
    rw [valV_neg (h a (List.mem_cons_self ..))]
    exact ih fun e he => h e (List.mem_cons_of_mem _ he)
theorem valV_mem {l : List (Key × V)} {k : Key} {v : V} (h : valV l k = some v) : (k, v) ∈ l := by
  induction l with
  | nil => cases h
  | cons a l ih =>
    by_cases c : a.1 = k
    · rw [valV_pos c] at h
      cases h
      rw [← c]
      exact List.mem_cons_self ..
    · rw [valV_neg c] at h
      exact List.mem_cons_of_mem _ (ih h)
/-- {k: v for k, v in d.items() if ..} -/
theorem dk_dcIt {i j m : Nat} {ws : List Nat} (p : Key × V → Bool) (hd : σ[m]? = some (some (.ref d))) (g : H d = some (.dK kvs)) (nd : (kvs.map (·.1)).Nodup) (hz : kvs.length ≤ 40000) (hw : ∀ x y, wipe (((wipe σ ws).set i (some x)).set j (some y)) ws = wipe σ ws)
    (ht : ∀ (e : Key × V) H1, e ∈ kvs → EvT tt (((wipe σ ws).set i (some (kV e.1))).set j (some e.2)) H1 (p e)) (hk : ∀ (e : Key × V) H1, Ev tk (((wipe σ ws).set i (some (kV e.1))).set j (some e.2)) H1 (kV e.1)) (hv : ∀ (e : Key × V) H1, Ev tv (((wipe σ ws).set i (some (kV e.1))).set j (some e.2)) H1 e.2) :
    EvDk (tLockE (tDc (iItems (tVar m)) (g2 K i j) tt tk tv ws)) σ H (kvs.filter p) := fun H1 e Q q => ⟨d, .dK kvs, e _ _ g, True.intro, fun od => ⟨.ref d, hd, d, od, kvs, rfl, upd_same, fun Dl hD => by
    have hDd : Dl ≠ d := fun z => by
      rw [z, upd_same] at hD
      cases hD
    refine dc_it (walk_items (d := d) (o := od) (kvs := kvs)) (fun n H' => frz H1 d od kvs Dl = none ∧ Ex (frz H1 d od kvs) H' ∧ H' Dl = some (.dK ((kvs.take n).filter p))) ⟨hD, Ex.new hD, upd_same⟩ (fun n H' _ p => p.2.1 _ _ upd_same) (fun n x H' H'' hn pp y => ?_) (fun H' pp => ⟨pp.2.1 _ _ upd_same, q Dl _ ?_ (unfrz (e _ _ g) pp.2.1) ?_⟩)
    · obtain ⟨T, x1, y1, rfl, hT, rfl, hx, hy⟩ := y
      have gn := List.getElem?_eq_getElem hn
      obtain ⟨rfl, rfl⟩ := ix_pairK gn hx hy
      have mn := List.getElem_mem hn
      have ne : ∀ e ∈ kvs.take n, e.1 ≠ (kvs[n]).1 := fun e he z => by
        obtain ⟨t, ht', et⟩ := List.getElem_of_mem he
        rw [List.length_take] at ht'
        have e1 : kvs[t]? = some e := by
          rw [← et, List.getElem_take]
          exact List.getElem?_eq_getElem (by omega)
        have a : (kvs.map (·.1))[t]? = some e.1 := by rw [List.getElem?_map, e1]; rfl
        have b : (kvs.map (·.1))[n]? = some e.1 := by rw [List.getElem?_map, gn, z]; rfl
        have := (List.getElem?_inj (by rw [List.length_map]; omega) nd).mp (a.trans b.symm)
        omega
      have ts : kvs.take (n + 1) = kvs.take n ++ [kvs[n]] := by rw [List.take_succ, gn]; rfl
      generalize kvs[n] = ee at *
      refine g2_go upd_same ⟨hw _ _, ?_⟩
      obtain ⟨p1, p2, p3⟩ := pp
      have nT : Dl ≠ T := fun z => by
        rw [← z, p3] at hT
        cases hT
      have p3' : upd H' T (.tup [kV ee.1, ee.2]) Dl = some (.dK ((kvs.take n).filter p)) := by rw [upd_ne nT]; exact p3
      have p2' := p2.trans (Ex.new (o := .tup [kV ee.1, ee.2]) hT)
      refine ht ee _ mn _ (Ex.refl _) _ fun H3 e3 => ?_
      cases hp : p ee with
      | true =>
        refine iteT (hk ee H3 H3 (Ex.refl _) _ fun H4 e4 => hv ee H4 H4 (Ex.refl _) _ fun H5 e5 => ⟨_, ee.1, rfl, e5 _ _ (e4 _ _ (e3 _ _ p3')), ?_, p1, (p2'.trans ((e3.trans e4).trans e5)).mut p1, ?_⟩)
        · have := List.length_filter_le p (kvs.take n)
          rw [List.length_take] at this
          exact sz_lt (by omega)
        · rw [upd_same, ts, List.filter_append, putK_new _ (valV_no fun e he => ne e (List.mem_filter.mp he).1)]
          show some (HO.dK _) = some (HO.dK (_ ++ List.filter p [ee]))
          rw [List.filter_cons, if_pos hp]
          rfl
      | false =>
        refine iteF ⟨p1, p2'.trans e3, ?_⟩
        rw [ts, List.filter_append]
        show H3 Dl = some (HO.dK (_ ++ List.filter p [ee]))
        rw [List.filter_cons, if_neg (by rw [hp]; exact Bool.false_ne_true)]
        show H3 Dl = some (HO.dK (_ ++ []))
        rw [List.append_nil]
        exact e3 _ _ p3'
    · rw [upd_ne hDd] at hD
      exact hD
    · rw [upd_ne hDd, pp.2.2, List.take_length]⟩⟩
theorem s_retDk {D : Ends} (h : EvDk te σ H kvs) (k : ∀ p H1, H p = none → Ex H H1 → H1 p = some (.dK kvs) → D.rt (.ref p) H1) : tRet te D σ H := h H (Ex.refl H) _ k
theorem q_asgDk {D : Ends} {tz : TS} {i : Nat} (h : EvDk te σ H kvs) (k : ∀ p H1, H p = none → Ex H H1 → H1 p = some (.dK kvs) → tz D (σ.set i (some (.ref p))) H1) : tSeq (tAsg te (gName i)) tz D σ H := h H (Ex.refl H) _ k
theorem dk_new : EvDk tDNewK σ H [] := fun H1 e Q q p hp => q p _ hp (Ex.new hp) upd_same
theorem dk_call {sp : Sp} {vs : List V} {E : XK} {ta : TA} (h : EvA ta σ H vs) (hs : SpDk sp vs H kvs) : EvDk (tCall sp [] E ta) σ H kvs := fun H1 e Q q =>
  h H1 e _ fun H2 e2 => by
    have := hs H2 (e.trans e2) Q (fun p H3 hp e3 g => q p H3 (fresh_back e2 hp) (e2.trans e3) g) E
    rw [← List.append_nil vs] at this
    exact this
/-- d.get(k, x) -/
theorem ev_get2 {ty tx : TE} {k : Key} {x : V} (hd : Ev td σ H (.ref d)) (g : H d = some (.dK kvs)) (hk : Ev ty σ H (kV k)) (hx : Ev tx σ H x) : Ev (tDGet2 td ty tx) σ H ((valV kvs k).getD x) := fun H1 e Q q =>
  hd H1 e _ fun H2 e2 => ⟨d, rfl, .inl ⟨kvs, .inl ((e.trans e2) _ _ g)⟩, hk H2 (e.trans e2) _ fun H3 e3 => hx H3 ((e.trans e2).trans e3) _ fun H4 e4 => ⟨_, DGet.k (((e.trans e2).trans (e3.trans e4)) _ _ g), q H4 (e2.trans (e3.trans e4))⟩⟩
/-- d[k] = v -/
theorem s_dput {ty tv' : TE} {D : Ends} {k : Key} {v : V} (g : H d = some (.dK kvs)) (hv : Ev tv' σ H v) (hd : Ev td σ H (.ref d)) (hk : Ev ty σ H (kV k)) (hz : kvs.length < 100000) (q : ∀ H1, Ex H H1 → D.nx σ (upd H1 d (.dK (putK kvs k v)))) : sDPut td ty tv' D σ H :=
  hv H (Ex.refl H) _ fun H1 e1 => hd H1 e1 _ fun H2 e2 => hk H2 (e1.trans e2) _ fun H3 e3 => ⟨d, _, rfl, DPut.k (((e1.trans e2).trans e3) _ _ g) (sz_lt hz), q H3 ((e1.trans e2).trans e3)⟩
theorem ev_lenDk {ta : TE} (h : EvDk ta σ H kvs) : Ev (tCB rLenD (tCons ta tNil)) σ H (.int (kvs.length : Nat)) := fun H1 e Q q =>
  h H1 e _ fun p H2 hp e2 g => ⟨p, kvs, rfl, .inl g, q H2 e2⟩
end
end Bk
namespace Bk
open PySem PySem.Spec PyProof.Rows L2 Evl
section
variable {K : PySem.W.Frag} {σ : L2.St} {H : Hp} {te tl : TE} {tt : TT} {tu tz : TS} {D : Ends} {d : Addr} {kvs : List (Key × V)}
theorem given_none (n : Nat) (v : Nat → V) : given n (fun _ => false) v = [] := by
  unfold given
  simp
theorem q_asgLk {i : Nat} {xs : List V} (h : EvL (tLockE te) σ H xs) (k : ∀ p H1, H p = none → Ex H H1 → H1 p = some (.lst xs) → tz D (σ.set i (some (.ref p))) H1) : tSeq (tLock (tAsg te (gName i))) tz D σ H := by
  obtain ⟨d, u, h1, h2, h3⟩ := h H (Ex.refl H) (fun v H' => tz D (σ.set i (some v)) H') k
  exact ⟨d, u, h1, h2, h3⟩
/-- for x, y in xs (a list of pairs) -/
theorem q_forP2 {a : Addr} {xs : List V} {i j : Nat} (h : Ev tl σ H (.ref a)) (hx : SqL K H a xs) (Pv : Nat → L2.St → Hp → Prop) (h0 : ∀ H1, Ex H H1 → Pv 0 σ H1) (hl : ∀ n σ' H', n ≤ xs.length → Pv n σ' H' → SqL K H' a xs)
    (hs : ∀ n v σ' H', xs[n]? = some v → Pv n σ' H' → ∃ t x y, v = .ref t ∧ SqT K H' t [x, y] ∧ tu { D with nx := Pv (n + 1), ct := Pv (n + 1), bk := tz D } ((σ'.set i (some x)).set j (some y)) H') (hd : ∀ σ' H', Pv xs.length σ' H' → tz D σ' H') :
    tSeq (tFor (iList K tl) (gTup K 2 (gCons (gName i) (gCons (gName j) gNil))) tu) tz D σ H :=
  h H (Ex.refl H) _ fun H1 e => ⟨a, rfl, ⟨xs, ex_l e hx⟩, for_list (D := { D with nx := tz D }) Pv (h0 H1 e) hl (fun n v σ' H' hv p => by
    obtain ⟨t, x, y, rfl, ht, q⟩ := hs n v σ' H' hv p
    exact ⟨t, _, rfl, ht, rfl, _, _, rfl, _, _, rfl, rfl, q⟩) hd⟩
/-- xs = [a new tuple for k, v in d.items() if true]: of what is in it nothing is told -/
theorem q_lcAny {i j m n : Nat} {ws : List Nat} {us : Key × V → List V} (hd : σ[m]? = some (some (.ref d))) (g : H d = some (.dK kvs)) (hz : kvs.length ≤ 40000) (hw : ∀ x y, wipe (((wipe σ ws).set i (some x)).set j (some y)) ws = wipe σ ws)
    (ht : ∀ (e : Key × V) H1, e ∈ kvs → EvT tt (((wipe σ ws).set i (some (kV e.1))).set j (some e.2)) H1 true) (he : ∀ (e : Key × V) H1, e ∈ kvs → EvU te (((wipe σ ws).set i (some (kV e.1))).set j (some e.2)) H1 (us e))
    (k : ∀ p H1, Ex H H1 → tz D (σ.set n (some (.ref p))) H1) : tSeq (tLock (tAsg (tLc (iItems (tVar m)) (g2 K i j) tt te ws) (gName n))) tz D σ H := ⟨d, .dK kvs, g, True.intro, fun od => ⟨.ref d, hd, d, od, kvs, rfl, upd_same, fun Dl hD => by
    refine lc_it (walk_items (d := d) (o := od) (kvs := kvs)) (fun t H' => frz H d od kvs Dl = none ∧ Ex (frz H d od kvs) H' ∧ ∃ acc, H' Dl = some (.lst acc) ∧ acc.length ≤ t) ⟨hD, Ex.new hD, [], upd_same, Nat.le_refl _⟩ (fun t H' _ p => p.2.1 _ _ upd_same) (fun t x H' H'' hn pp y => ?_) (fun H' pp => ⟨pp.2.1 _ _ upd_same, k Dl _ (unfrz g pp.2.1)⟩)
    obtain ⟨T, x1, y1, rfl, hT, rfl, hx, hy⟩ := y
    have gn := List.getElem?_eq_getElem hn
    obtain ⟨rfl, rfl⟩ := ix_pairK gn hx hy
    have mn := List.getElem_mem hn
    generalize kvs[t] = ee at *
    refine g2_go upd_same ⟨hw _ _, ?_⟩
    obtain ⟨p1, p2, acc, p3, p4⟩ := pp
    have nT : Dl ≠ T := fun z => by
      rw [← z, p3] at hT
      cases hT
    have p3' : upd H' T (.tup [kV ee.1, ee.2]) Dl = some (.lst acc) := by rw [upd_ne nT]; exact p3
    have p2' := p2.trans (Ex.new (o := .tup [kV ee.1, ee.2]) hT)
    refine ht ee _ mn _ (Ex.refl _) _ fun H3 e3 => iteT ?_
    refine he ee H3 mn H3 (Ex.refl _) _ fun p H4 hp e4 g4 => ⟨acc, e4 _ _ (e3 _ _ p3'), sz_lt (by omega), p1, (p2'.trans (e3.trans e4)).mut p1, _, upd_same, ?_⟩
    rw [List.length_append]
    show acc.length + 1 ≤ t + 1
    omega⟩⟩
end
end Bk
namespace Bk
open PySem PySem.Spec PyProof.Rows L2 Evl
/-! ### fe(e, ..), fe any expression whose value is one of some defs -/
def RunF (X : Cx) (E : XK) (f : Addr) (sp : Sp) : Prop := PySem.W.keepIn X.K (.ref f) = true ∧ ∀ (pins : List (Addr × Obj)) (σ : L2.St) (H : Hp) (s : Shared) (Q : VK) (us : List Value) (vs : List V), Inv X pins σ H s → Vals vs us → sp vs H Q E → wpAny (model X.prog X.w) X.A (call (.ref f) us) (EP X pins σ Q) X.xe s
def Runs (X : Cx) (E : XK) (fs : List (Addr × Sp)) : Prop := ∀ q ∈ fs, RunF X E q.1 q.2
def tCallE (fs : List (Addr × Sp)) (E : XK) (tf : TE) (t : TA) : TE := fun σ H Q => tf σ H fun v H1 => ∃ (f : Addr) (sp : Sp), v = .ref f ∧ (f, sp) ∈ fs ∧ t σ H1 fun vs H2 => sp vs H2 Q E
section
variable {X : Cx} {CX : CXT} {k : Nat} {f : Addr} {fd : FuncData} {ps : List Str} {sp : Sp} {E : XK} {fs : List (Addr × Sp)} {fe e : Expr} {es : List Expr} {tf : TE} {t : TA} {pos : Pos}
theorem runF (F : FnG X.prog X.w X.K X.mg X.base CX k f fd ps sp) (hr : Rm k X.A) (hk : PySem.W.keepIn X.K (.ref f) = true) (hb : Binds X.K fd ps []) (hx : Passes CX X E) : RunF X E f sp :=
  ⟨hk, fun pins σ H s Q us vs I r h => runG F hr hb .nil hx I r (by rw [List.append_nil]; exact h)⟩
theorem runs_nil : Runs X E [] := fun _ h => nomatch h
theorem runs_cons (h : RunF X E f sp) (r : Runs X E fs) : Runs X E ((f, sp) :: fs) := fun q m => (List.mem_cons.mp m).elim (fun z => z ▸ h) (r q)
theorem pe_callE (hf : PE X fe tf) (hfs : Runs X E fs) (ha : PA X (e :: es) t)
    (hst : starEach (e :: es) X.env = (false, eval e X.env) :: starEach es X.env := by rfl) (hpl : (backTo pos (starEach es X.env)).any (·.1) = false := by rfl)
    (he : eval (.Call fe (e :: es) [] pos) X.env = (do callWith pos (← eval fe X.env) [] (backTo pos (starEach (e :: es) X.env)) (backToKw pos (keywordEach [] X.env))) := by rfl) :
    PE X (.Call fe (e :: es) [] pos) (tCallE fs E tf t) := by
  refine ⟨fun pins s σ H Q I h => PyProof.Rows.Call_ (thn (hf.run pins s σ H _ I h) fun u s0 ⟨v, H0, I0, r0, f, sp, ev, m, q0⟩ => ?_) he⟩
  subst ev
  obtain rfl : u = Value.ref f := r0
  refine PySem.W.callWith_K (h₀ := X.base) I.ok.mod.kin (hfs _ m).1 (thn (ha.run pos pins s0 σ H0 _ I0 q0) fun us s1 ⟨vs, H1, I1, r1, q1⟩ => ⟨I1.kIn, ?_⟩) hst hpl
  exact (hfs _ m).2 pins σ H1 s1 Q us vs I1 r1 q1
end
section
variable {K : PySem.W.Frag} {σ : L2.St} {H : Hp} {tf : TE} {t : TA} {fs : List (Addr × Sp)} {E : XK} {f : Addr} {sp : Sp} {vs : List V} {Q : VK}
theorem callE (h : Ev tf σ H (.ref f)) (m : (f, sp) ∈ fs) (ha : ∀ H1, Ex H H1 → EvA t σ H1 vs) (hs : ∀ H1, Ex H H1 → sp vs H1 Q E) : tCallE fs E tf t σ H Q :=
  h H (Ex.refl H) _ fun H1 e1 => ⟨f, sp, rfl, m, ha H1 e1 H1 (Ex.refl H1) _ fun H2 e2 => hs H2 (e1.trans e2)⟩
end
end Bk
namespace Bk
open PySem PySem.Spec PyProof.Rows L2 Evl
/-! ### tuples joined and cut, empty and whole ones too: a tuple, new or not, with what is known of its items -/
theorem op_catAK {X : Cx} {K : PySem.W.Frag} (h : X.K = K) : OpR X (binaryOp .Add) (rCatA K) := by
  subst h
  exact op_catA
theorem sl_tupAK {X : Cx} {K : PySem.W.Frag} (h : X.K = K) : SlR X (rSlA K) := by
  subst h
  exact sl_tupA
def EvQP (K : PySem.W.Frag) (te : TE) (σ : L2.St) (H : Hp) (P : List V → Hp → Prop) : Prop := ∀ H1, Ex H H1 → ∀ Q : VK, (∀ p xs H2, Ex H1 H2 → SqT K H2 p xs → P xs H2 → Q (.ref p) H2) → te σ H1 Q
theorem cutV_whole {xs : List V} {lo hi : Option Int} (h : HT.sIx xs.length 0 lo = 0 ∧ HT.sIx xs.length xs.length hi = xs.length) : cutV xs lo hi = xs := by
  unfold cutV
  rw [h.1, h.2, List.drop_zero]
  exact List.take_of_length_le (by omega)
section
variable {K : PySem.W.Frag} {σ : L2.St} {H : Hp} {ta tb tc te tl : TE} {t : TT} {tr : TA} {P P1 P2 : List V → Hp → Prop} {PV : V → Hp → Prop} {D : Ends} {tz tu : TS} {sp : Sp} {E : XK}
theorem eqp_mono (h : EvQP K te σ H P) (m : ∀ xs H1, Ex H H1 → P xs H1 → P1 xs H1) : EvQP K te σ H P1 := fun H1 e Q q => h H1 e Q fun p xs H2 e2 g px => q p xs H2 e2 g (m xs H2 (e.trans e2) px)
theorem eqp_var {p : Addr} {xs : List V} (h : Ev te σ H (.ref p)) (g : SqT K H p xs) (px : ∀ H1, Ex H H1 → P xs H1) : EvQP K te σ H P := fun H1 e Q q => h H1 e _ fun H2 e2 => q p xs H2 e2 (ex_t (e.trans e2) g) (px H2 (e.trans e2))
theorem eqp_new {xs : List V} (h : EvU te σ H xs) (px : ∀ H1, Ex H H1 → P xs H1) : EvQP K te σ H P := fun H1 e Q q => h H1 e _ fun p H2 hp e2 g => q p xs H2 e2 (st_of g) (px H2 (e.trans e2))
theorem eqp_one (mono : ∀ v H1 H2, Ex H1 H2 → PV v H1 → PV v H2) (h : EvP te σ H PV) : EvQP K (tTup (tCons te tNil)) σ H (fun xs H1 => ∃ v, xs = [v] ∧ PV v H1) := fun H1 e Q q =>
  h H1 e _ fun v H2 e2 pv => ⟨sz_of (by show 1 ≤ 100000; decide), fun p hp => q p [v] _ (e2.trans (Ex.new hp)) (st_of upd_same) ⟨v, rfl, mono _ _ _ (Ex.new hp) pv⟩⟩
theorem eqp_cat (ha : EvQP K ta σ H P1) (hb : EvQP K tb σ H P2) (m1 : ∀ xs H1 H2, Ex H1 H2 → P1 xs H1 → P1 xs H2) (m2 : ∀ xs H1 H2, Ex H1 H2 → P2 xs H1 → P2 xs H2) (hz : ∀ xs ys H1, P1 xs H1 → P2 ys H1 → xs.length + ys.length ≤ 100000) :
    EvQP K (tOp (rCatA K) ta tb) σ H (fun zs H1 => ∃ xs ys, zs = xs ++ ys ∧ P1 xs H1 ∧ P2 ys H1) := fun H1 e Q q =>
  ha H1 e _ fun p xs H2 e2 g2 p1 => hb H2 (e.trans e2) _ fun r ys H3 e3 g3 p2 => by
    have p1' := m1 _ _ _ e3 p1
    refine ⟨p, r, xs, ys, rfl, rfl, ex_t e3 g2, g3, sz_of (hz xs ys H3 p1' p2), fun h0 => ?_, fun _ h1 => ?_, fun _ _ l hl => ?_⟩
    · exact q r (xs ++ ys) H3 (e2.trans e3) (by rw [h0]; exact g3) ⟨xs, ys, rfl, p1', p2⟩
    · exact q p (xs ++ ys) H3 (e2.trans e3) (by rw [h1, List.append_nil]; exact ex_t e3 g2) ⟨xs, ys, rfl, p1', p2⟩
    · exact q l (xs ++ ys) _ ((e2.trans e3).trans (Ex.new hl)) (st_of upd_same) ⟨xs, ys, rfl, m1 _ _ _ (Ex.new hl) p1', m2 _ _ _ (Ex.new hl) p2⟩
theorem eu_catA {p : Addr} {xs ys : List V} (ha : Ev ta σ H (.ref p)) (hb : EvU tb σ H ys) (h : SqT K H p xs) (h0 : xs ≠ []) (h1 : ys ≠ []) (hz : xs.length + ys.length ≤ 100000) : EvU (tOp (rCatA K) ta tb) σ H (xs ++ ys) := fun H1 e Q k =>
  ha H1 e _ fun H2 e2 => hb H2 (e.trans e2) _ fun r H3 hr e3 h3 => ⟨p, r, xs, ys, rfl, rfl, ex_t ((e.trans e2).trans e3) h, st_of h3, sz_of hz, fun c => (h0 c).elim, fun _ c => (h1 c).elim, fun _ _ l hl => k l _ (fresh_back (e2.trans e3) hl) ((e2.trans e3).trans (Ex.new hl)) upd_same⟩
theorem eqp_sl {to th : TO} {a : Addr} {xs : List V} {lo hi : Option Int} (h : Ev te σ H (.ref a)) (h1 : EvO to σ H lo) (h2 : EvO th σ H hi) (hs : SqT K H a xs) : EvQP K (tSl (rSlA K) te to th) σ H (fun ys _ => ys = cutV xs lo hi) := fun H1 e Q q =>
  h H1 e _ fun H2 e2 => h1 H2 (e.trans e2) _ fun H3 e3 => h2 H3 ((e.trans e2).trans e3) _ fun H4 e4 => by
    have e14 := (e2.trans e3).trans e4
    refine ⟨a, xs, rfl, ex_t (e.trans e14) hs, fun w => ?_, fun _ p hp => ?_⟩
    · exact q a xs H4 e14 (ex_t (e.trans e14) hs) (cutV_whole w).symm
    · exact q p _ _ (e14.trans (Ex.new hp)) (st_of upd_same) rfl
theorem ep_Q (h : EvQP K te σ H P) (k : ∀ p xs H1, Ex H H1 → SqT K H1 p xs → P xs H1 → PV (.ref p) H1) : EvP te σ H PV := fun H1 e Q q => h H1 e _ fun p xs H2 e2 g px => q (.ref p) H2 e2 (k p xs H2 (e.trans e2) g px)
/-- two new tuples to two names -/
theorem q_parUU {i j : Nat} {xs ys : List V} (h1 : EvU ta σ H xs) (h2 : ∀ p H1, H p = none → Ex H H1 → H1 p = some (.tup xs) → EvU tb σ H1 ys) (k : ∀ p q H1, H p = none → H q = none → Ex H H1 → H1 p = some (.tup xs) → H1 q = some (.tup ys) → tz D ((σ.set i (some (.ref p))).set j (some (.ref q))) H1) : tSeq (tPar i j (tCons ta (tCons tb tNil))) tz D σ H :=
  h1 H (Ex.refl H) _ fun p H2 hp e2 g2 => h2 p H2 hp e2 g2 H2 (Ex.refl H2) _ fun q H3 hq e3 g3 => ⟨_, _, rfl, k p q H3 hp (fresh_back e2 hq) (e2.trans e3) (e3 _ _ g2) g3⟩
/-- [e for x in new values if t], t never -/
theorem el_lcNone {n j : Nat} {ws : List Nat} (mono : ∀ v H1 H2, Ex H1 H2 → PV v H1 → PV v H2) (h : EvLP tl σ H (AllP PV n)) (hz : n ≤ 40000) (hw : ∀ x, wipe ((wipe σ ws).set j (some x)) ws = wipe σ ws) (ht : ∀ (x : V) H1, Ex H H1 → PV x H1 → EvT t ((wipe σ ws).set j (some x)) H1 false) : EvL (tLc (iList K tl) (gName j) t te ws) σ H [] := fun H0 e Q q =>
  h H0 e _ fun a xs H1 ha e1 hx ⟨hl, px⟩ => ⟨a, rfl, ⟨xs, sq_of hx⟩, fun Dl hD => lc_list (xs := xs) (fun _ H' => Ex H1 H' ∧ H' Dl = some (.lst [])) ⟨Ex.new hD, upd_same⟩ (fun i H' _ p => sq_of (p.1 a _ hx)) (fun i x H' hi p => ⟨hw x, ht x H' (e.trans (e1.trans p.1)) (mono _ _ _ p.1 (px x (List.mem_of_getElem? hi))) H' (Ex.refl H') _ fun H3 e3 => iteF ⟨p.1.trans e3, e3 _ _ p.2⟩⟩)
    (fun H' p => q Dl H' (fresh_back e1 hD) (e1.trans p.1) p.2)⟩
/-- a call in a test, a drawn list behind -/
theorem ev_call2P {x v : V} {y : V} (h1 : Ev ta σ H x) (h2 : EvP tb σ H PV) (h3 : ∀ H1, Ex H H1 → Ev tc σ H1 y) (hs : ∀ u H1, Ex H H1 → PV u H1 → ∀ H2, Ex H1 H2 → SpV sp [x, u, y] H2 v) : Ev (tCall sp [] E (tCons ta (tCons tb (tCons tc tNil)))) σ H v := fun H1 e Q q =>
  h1 H1 e _ fun H2 e2 => h2 H2 (e.trans e2) _ fun u H3 e3 pu => h3 H3 ((e.trans e2).trans e3) H3 (Ex.refl H3) _ fun H4 e4 => hs u H3 ((e.trans e2).trans e3) pu H4 e4 H4 (Ex.refl H4) Q (fun H5 e5 => q H5 (((e2.trans e3).trans e4).trans e5)) E
theorem ev_call3P {x v : V} {y : V} (h1 : Ev ta σ H x) (h2 : Ev tb σ H y) (h3 : EvP tc σ H PV) (hs : ∀ u H1, Ex H H1 → PV u H1 → SpV sp [x, y, u] H1 v) : Ev (tCall sp [] E (tCons ta (tCons tb (tCons tc tNil)))) σ H v := fun H1 e Q q =>
  h1 H1 e _ fun H2 e2 => h2 H2 (e.trans e2) _ fun H3 e3 => h3 H3 ((e.trans e2).trans e3) _ fun u H4 e4 pu => hs u H4 (((e.trans e2).trans e3).trans e4) pu H4 (Ex.refl H4) Q (fun H5 e5 => q H5 (((e2.trans e3).trans e4).trans e5)) E
end
end Bk
namespace PySem.HandSPX
open PySem
section
variable {M : Model} {A : Around} {E : Value → Shared → Prop} {h : Heap} {g : Array GenState} {d : Drawn} {t : Nat} {os : OsState}
variable {nm q : Str} {C N : Addr} {bs bm bmB : List Value} {hdct : Bool} {sn : List Str} {sub : List Value} {ab : Bool} {col : Option Bool} {dd : Option Addr} {k0 k1 k2 k3 k5 : Option Value} {B newId initId : String}
theorem check_new_ownK (F : ExcBaseFacts B newId initId bmB) (hT : ∀ X : String, bm.contains (.type X) = bmB.contains (.type X)) {rest : List Value} {kw : List (Str × Value)} {Q : Unit → Shared → Prop}
    (hC : h.get? C = some (excClassObj nm q C N bs bm hdct sn sub ab col dd k0 k1 k2 k3 k5 newId)) (hq : Q () ⟨h, g, d, t, os⟩) : wpAny M A (checkBuiltinCall newId ⟨.ref C :: rest, kw⟩) Q E ⟨h, g, d, t, os⟩ := by
  have hcont : (Value.ref C :: bm).contains (.type B) = true := by rw [List.contains_cons, hT, F.hasB, Bool.or_true]
  have hstar := F.noStar
  simp only [checkBuiltinCall, F.newKind, F.newSplit, F.newRow]
  repeat (first | refine wpAny_loadPart_at hC ?_ | (refine wpAny_isSubtype_exc hC ?_; rw [hcont]) | refine wpAny_staticBase_exc hC ?_ | refine wpAny_madeBy_exc hC ?_ | simp only [bne_self_eq_false, Bool.false_eq_true, if_false] | wp_step)
  exact hq
end
section
variable {prog : Program} {w : World} {A : Around} {E : Value → Shared → Prop} {R : Result → Shared → Prop} {h : Heap} {g : Array GenState} {d : Drawn} {t : Nat} {os : OsState}
variable {nm q : Str} {C N : Addr} {bs bm bmB : List Value} {hdct : Bool} {sn : List Str} {sub : List Value} {ab : Bool} {col : Option Bool} {dd : Option Addr} {k0 k1 k2 k3 k5 : Option Value} {B newId initId : String}
theorem new_ownK (F : ExcBaseFacts B newId initId bmB) (hT : ∀ X : String, bm.contains (.type X) = bmB.contains (.type X)) {rest : List Value} {kw : List (Str × Value)}
    (hC : h.get? C = some (excClassObj nm q C N bs bm hdct sn sub ab col dd k0 k1 k2 k3 k5 newId))
    (hq : R (.ok (.ret (.ref (h.objs.size + 1)))) ⟨(h.push { cls := .type "tuple", data := .seq rest.toArray }).push
      { cls := .ref C, data := .fields #[.ref h.objs.size, .none, .none, .none, .bool false, .none] }, g, d, t, os⟩) (hrest : rest.length ≤ sizeLine) :
    codeAny (model prog w) A (.builtin newId ⟨.ref C :: rest, kw⟩) R ⟨h, g, d, t, os⟩ := by
  have hends := F.ends
  have hcB : (Value.ref C :: bm).contains (.type B) = true := by rw [List.contains_cons, hT, F.hasB, Bool.or_true]
  have hcA : (Value.ref C :: bm).contains (.type "AttributeError") = false := by rw [List.contains_cons, hT, F.noAttr]; rfl
  have hcN : (Value.ref C :: bm).contains (.type "NameError") = false := by rw [List.contains_cons, hT, F.noName]; rfl
  refine codeAny_builtinAt F.entry ?_
  unfold Builtin.«BaseException.__new__»
  refine wpAt_bind ?_
  show wpAt _ _ _ (stack >>= _) _ _ _
  refine wpAt_bind (wpAt_stack fun p below => wpAt_of_wpAny ?_)
  wp_walk
  refine wpAt_of_wpAny ?_
  rw [F.owner]
  repeat (first | with_reducible refine wpAny_madeHere_exc F.canon hC ?_ | with_reducible refine wpAny_loadPart_at hC ?_ | (with_reducible refine wpAny_isSubtype_exc hC ?_; first | rw [hcB] | rw [hcA] | rw [hcN]) | wp_step)
  show R _ _
  rw [Heap.size_push]
  exact hq
theorem type_call_ownK (F : ExcBaseFacts B newId initId bmB) (hT : ∀ X : String, bm.contains (.type X) = bmB.contains (.type X)) {rest : List Value} {kw : List (Str × Value)} {fI : Addr} {Q : Fin → Shared → Prop}
    (hC : h.get? C = some (excClassObj nm q C N bs bm hdct sn sub ab col dd k0 k1 k2 k3 k5 newId))
    (hi : W.Looks (model prog w) h (typeLookup (.ref C) "__init__") (some (.ref fI))) (hb : ∀ self, W.Looks (model prog w) h (bindSpecial (.ref fI) self) (.ref fI, [self])) (hrest : rest.length ≤ sizeLine)
    (hq : codeAny (model prog w) A (.call (.ref fI) ⟨.ref (h.objs.size + 1) :: rest, kw⟩)
      (fun r s' => match r with | .ok (.ret v) => v = .none ∧ Q (.done (.ret (.ref (h.objs.size + 1)))) s' | .ok _ => False | .error e => E e s')
      ⟨(h.push (W.kdv_tup rest)).push (excO C h.objs.size), g, d, t, os⟩) :
    wpAny (model prog w) A (Builtin.«type.__call__» ⟨.ref C :: rest, kw⟩) Q E ⟨h, g, d, t, os⟩ := by
  repeat (first | with_reducible refine wpAny_loadPart_at hC ?_ | with_reducible refine wpAny_madeBy_exc hC ?_ | wp_step)
  refine codeAny_call_builtin_code (Code.quiet_builtin _ F.quiet) (check_new_ownK F hT hC ?_)
  refine new_ownK F hT hC ?_ hrest
  show wpAny _ _ _ _ _ _
  have k : ∀ b o, h.get? b = some o → ((h.push (W.kdv_tup rest)).push (excO C h.objs.size)).get? b = some o := fun b o e => Heap.get?_push_of_some _ (Heap.get?_push_of_some _ e)
  have hC₁ := k _ _ hC
  have hget : ((h.push (W.kdv_tup rest)).push (excO C h.objs.size)).get? (h.objs.size + 1) = some (excO C h.objs.size) := by heap_get
  have hcC : (Value.ref C :: bm).contains (.ref C) = true := by simp
  have i1 := hi.keeps k
  have b1 := (hb (.ref (h.objs.size + 1))).keeps k
  unfold isInstance
  repeat (first | with_reducible refine wpAny_loadPart_at hget ?_ | (with_reducible refine wpAny_isSubtype_exc hC₁ ?_; rw [hcC]) | wp_step)
  show wpAny _ _ (typeLookup (.ref C) _) _ _ _
  refine i1.at ?_
  refine wpAny_holding (wpAny_bind (b1.at ?_))
  refine wpAny_bind (wpAny_call (codeAny_mono hq fun r s' z => ?_))
  rcases r with e | (v | _ | _ | _) <;> first | exact z | exact z.elim | skip
  obtain ⟨rfl, z⟩ := z
  first
    | exact wpAny_pure (wpAny_pure z)
    | (wp_walk; exact z)
theorem call_ownK (F : ExcBaseFacts B newId initId bmB) (hT : ∀ X : String, bm.contains (.type X) = bmB.contains (.type X)) {rest : List Value} {kw : List (Str × Value)} {fI : Addr}
    (hC : h.get? C = some (excClassObj nm q C N bs bm hdct sn sub ab col dd k0 k1 k2 k3 k5 newId))
    (hi : W.Looks (model prog w) h (typeLookup (.ref C) "__init__") (some (.ref fI))) (hb : ∀ self, W.Looks (model prog w) h (bindSpecial (.ref fI) self) (.ref fI, [self])) (hrest : rest.length ≤ sizeLine)
    (hq : codeAny (model prog w) (A.under (.builtin "type.__call__" ⟨.ref C :: rest, kw⟩)) (.call (.ref fI) ⟨.ref (h.objs.size + 1) :: rest, kw⟩) (W.InitBack (h.objs.size + 1) R)
      ⟨(h.push (W.kdv_tup rest)).push (excO C h.objs.size), g, d, t, os⟩) :
    codeAny (model prog w) A (.call (.ref C) ⟨rest, kw⟩) R ⟨h, g, d, t, os⟩ := by
  have f1 := tc_lookup
  have f2 := tc_bind (.ref C)
  have hTy : (⟨h, g, d, t, os⟩ : Shared).TypeIs (.ref C) "type" := ⟨_, hC, rfl⟩
  refine codeAny_of_tree ?_
  show wpAny _ _ (callAny (.ref C) _) _ _ _
  repeat (any_goals (first | assumption | with_reducible refine wpAny_loadPart_at hC ?_ | wp_step))
  refine ⟨rfl, ?_⟩
  refine codeAny_call_builtin_at (Code.quiet_builtin _ (by decide +kernel)) entry_typeCall (wpAny_check_type_call_sub hC (type_call_ownK F hT hC hi hb hrest ?_))
  refine codeAny_mono hq fun r s' z => ?_
  rcases r with e | (v | _ | _ | _) <;> exact z
end
end PySem.HandSPX
namespace Bk
open PySem PySem.Spec PyProof.Rows L2 Evl
section
variable {X : Cx} {C fI : Addr} {fd : FuncData} {f x : Str} {st : Stmt} {e : Expr} {te : TE} {p pos : Pos} {kws : List Keyword}
/-- C(f = e) of an own error class with an __init__(self, f) -/
theorem pmk_oexK {CX : CXT} {k : Nat} {sp : Sp} (T : OexC X.K C) (iC : PySem.W.findIn X.K (.ref C) "__init__" = some (some (.ref fI))) (tI : PySem.W.typeIn X.K (.ref fI) = some (.type "function"))
    (F1 : FnOk X.prog X.w X.K X.mg X.base CX k fI fd ["self", f] sp) (hr : Room (k + 1) X.A) (hb : ∀ (s : Shared) (u v : Value), X.K.In s.heap → BindsTo s fd ⟨[u], [(f, v)]⟩ [(("self" : Str), u), (f, v)]) (hx : Passes CX X (fun _ _ _ => False)) (hg : Gl X x) (hm : X.mg x = some (.ref C)) (hkw : PK X kws (tCons te tNil))
    (hks : (backToKw pos (keywordEach kws X.env)).filterMap (·.1) = [f] := by rfl) (hall : (backToKw pos (keywordEach kws X.env)).all (·.1.isSome) = true := by rfl)
    (hdb : (x == ("__debug__" : Str)) = false := by decide) (hpl : ((backTo pos (starEach [] X.env)).any (·.1) || (backToKw pos (keywordEach kws X.env)).any (·.1.isNone)) = false := by rfl) :
    PMk X (.Call (.Name x p) [] kws pos) (tMkO C sp [] (tCons te tNil)) := by
  intro pins s σ H Q I h
  obtain ⟨nm, q, N, bs, bm, sn, sub, ab, col, dd, k0, k1, k2, k3, k5, hC, hbm⟩ := T.cls
  refine wpAny_Call_Name_kw (ld_glob I hg hm ?_ hdb)
  refine PySem.W.callWith_KW0 (h₀ := X.base) I.ok.mod.kin T.kC hall (thn (hkw.run pos pins s σ H _ I h) fun us s1 ⟨vs, H1, I1, r1, hz, q1⟩ => ⟨I1.kIn, ?_⟩) hpl
  rw [hks]
  obtain ⟨hp, g, dr, tk, os⟩ := s1
  have hsz : hp.objs.size ≤ hp.objs.size + 1 := Nat.le_succ _
  have hn : H1 (hp.objs.size + 1) = none := I1.hok.fresh hsz
  have hq := q1 (hp.objs.size + 1) hn
  have kk : ∀ b o, hp.get? b = some o → ((hp.push (PySem.W.kdv_tup [])).push (PySem.HandSPX.excO C hp.objs.size)).get? b = some o := fun b o e => Heap.get?_push_of_some _ (Heap.get?_push_of_some _ e)
  have hget : ((hp.push (PySem.W.kdv_tup [])).push (PySem.HandSPX.excO C hp.objs.size)).get? (hp.objs.size + 1) = some (PySem.HandSPX.excO C hp.objs.size) := by heap_get
  have I2 : Inv X pins σ (upd H1 (hp.objs.size + 1) (exo (hp.objs.size + 1) C none)) ⟨(hp.push (PySem.W.kdv_tup [])).push (PySem.HandSPX.excO C hp.objs.size), g, dr, tk, os⟩ :=
    I1.laid (t' := tk) (a := hp.objs.size + 1) (o := exo (hp.objs.size + 1) C none) (h' := (hp.push (PySem.W.kdv_tup [])).push (PySem.HandSPX.excO C hp.objs.size)) kk hsz (exo_ok hget)
  have r2 : Vals (V.ref (hp.objs.size + 1) :: (vs ++ [])) (Value.ref (hp.objs.size + 1) :: us) := .cons rfl (by rw [List.append_nil]; exact r1)
  have hl : (Value.ref (hp.objs.size + 1) :: us).length = (["self", f] : List Str).length := by
    have e := r2.length
    rw [F1.len _ _ _ _ hq] at e
    exact e.symm
  obtain ⟨u, rfl⟩ : ∃ u, us = [u] := by
    match us, hl with
    | [u], _ => exact ⟨u, rfl⟩
  refine wpAny_call (PySem.HandSPX.call_ownK (kw := [(f, u)]) F.excBase_ValueError (fun Y => PySem.HandSPX.refsVE_contains Y bm hbm) (I1.kIn _ _ hC) (PySem.W.looks_findIn I1.kIn iC) (fun self => PySem.W.bind_fn I1.kIn self tI) (Nat.zero_le _)
    (codeAny_mono (F1.run _ X.stack _ _ ⟨[Value.ref (hp.objs.size + 1)], [(f, u)]⟩ [Value.ref (hp.objs.size + 1), u] _ _ (fun _ _ _ => False) (hr.make C [] [(f, u)]) (I2.env0.make C [] [(f, u)]) (hb _ _ _ I2.kIn) r2 hq) fun r s' hq' => ?_))
  cases r with
  | error er => exact hx pins σ _ _ er s' I2 hq'
  | ok fl =>
    cases fl with
    | ret u =>
      obtain ⟨v, H2, os2, bare2, un2, hok2, rv, ev, d, fs, ea, ed, hd1, q2⟩ := hq'
      subst ev
      obtain ⟨h2, g2, d2, t2, os'⟩ := s'
      exact ⟨rv, mk_end (raises_own T.exC T.tyC) I1 hsz kk un2 hok2 os2 bare2 ea ed hd1 q2⟩
    | next => exact False.elim hq'
    | brk => exact False.elim hq'
    | cont => exact False.elim hq'
theorem pmk_supK (S : SupC X.prog X.K X.mg C fI fd f st) (hb : ∀ (s : Shared) (u v : Value), X.K.In s.heap → BindsTo s fd ⟨[u], [(f, v)]⟩ [(("self" : Str), u), (f, v)]) (hr : Room 2 X.A) (hg : Gl X x) (hm : X.mg x = some (.ref C)) (hkw : PK X kws (tCons te tNil))
    (hks : (backToKw pos (keywordEach kws X.env)).filterMap (·.1) = [f] := by rfl) (hall : (backToKw pos (keywordEach kws X.env)).all (·.1.isSome) = true := by rfl)
    (hdb : (x == ("__debug__" : Str)) = false := by decide) (hpl : ((backTo pos (starEach [] X.env)).any (·.1) || (backToKw pos (keywordEach kws X.env)).any (·.1.isNone)) = false := by rfl) :
    PMk X (.Call (.Name x p) [] kws pos) (tMkO C (sp_sup C f) [] (tCons te tNil)) :=
  pmk_oexK (CX := CX0) (k := 1) S.ox S.iC S.tI (sup_ok S) hr hb (fun _ _ _ _ _ _ _ z => z.elim) hg hm hkw hks hall hdb hpl
end
/-! ### repr of any data, texts too -/
def rReprA (K : PySem.W.Frag) : List V → Hp → VK → Prop := fun xs H Q => ∃ (x : V) (d : PyData), xs = [x] ∧ Dp K H x d ∧ Sho d ∧ Q (.str d.shown) H
theorem call_reprA {X : Cx} {K : PySem.W.Frag} (hK : X.K = K) (hg : X.A.guards = some []) (hu : X.A.units + 64 < cLine) : CallR X (.builtin "repr") (rReprA K) := by
  intro pins s σ H xs us Q I r h
  obtain ⟨x, d, rfl, hd, hs, q⟩ := h
  by_cases no : ∀ y, d ≠ .str y
  · exact call_reprX hK hg hu pins s σ H _ us Q I r ⟨x, d, rfl, hd, hs, no, q⟩
  · obtain ⟨y, rfl⟩ : ∃ y, d = .str y := Classical.byContradiction fun z => no fun y e => z ⟨y, e⟩
    obtain ⟨u, rfl, ru⟩ := vals1 r
    cases hd
    obtain ⟨t, rfl⟩ := ru
    exact PySem.P.repr_of_str ⟨.str _, H, I.tok _, ⟨_, rfl⟩, q⟩ hs.2.2.2
theorem ev_reprA {K : PySem.W.Frag} {σ : L2.St} {H : Hp} {te : TE} {d : PyData} (h : EvD K te σ H d) (hs : Sho d) : Ev (tCB (rReprA K) (tCons te tNil)) σ H (.str d.shown) := fun H1 e Q q =>
  h H1 e _ fun v H2 e2 hd => ⟨v, d, rfl, hd, hs, q H2 e2⟩
/-- raise C(values), C an own error class without __init__ -/
theorem mk_own {C : Addr} {σ : L2.St} {H : Hp} {t : TA} {vs : List V} {Q : XK} (h : EvA t σ H vs) (l : vs.length ≤ 1000) (q : ∀ H1, Ex H H1 → Q (.ref C) none H1) : (fun σ H (Q : XK) => t σ H fun vs H1 => vs.length ≤ sizeLine ∧ Q (.ref C) none H1) σ H Q := h H (Ex.refl H) _ fun H1 e1 => ⟨sz_of (by omega), q H1 e1⟩
/-- what is known of a class and others -/
def Subs (K : PySem.W.Frag) (d : Addr) : List (Addr × Bool) → Prop
  | [] => True
  | (c, b) :: r => PySem.W.subIn K (.ref d) (.ref c) = some b ∧ Subs K d r
end Bk
/-! enumerate(zip(a, b), start=k) of two lists: the tuple that the zip gave out may be there still, or not -/
namespace PySem
open Sem (wp)
abbrev IsZ (h : Heap) (z TI TO : Addr) (f0 : Value) (f : Bool) : Prop :=
  h.get? z = some { cls := .type "zip", dict := none, data := .fields #[f0, .bool f, .bool false, .ref TI, .ref TO], slots := #[] }
section
variable {prog : Program} {w : World} {A : Around} {E : Value → Shared → Prop} {s : Shared}
theorem dead_load {a : Addr} {Q : Option Obj → Shared → Prop} (ho : s.heap.get? a = none) (h : Q none s) : wpAny (model prog w) A (loadIfAlive a) Q E s := by
  have h' : Q (s.heap.get? a) s := by rw [ho]; exact h
  exact fun _ _ _ => h'
/-- nothing was given out, or it has gone -/
def ZGone (h : Heap) (f0 : Value) : Prop := f0 = .none ∨ ∃ T : Addr, f0 = rawInt T ∧ h.get? T = none
theorem z_free {z TI TO : Addr} {f0 : Value} {f : Bool} {Q : Bool → Shared → Prop} (hz : IsZ s.heap z TI TO f0 f) (hg : ZGone s.heap f0) (h : Q true s) : wpAny (model prog w) A (Builtin.SmallTypes.ownedTupleIsFree (.ref z)) Q E s := by
  unfold Builtin.SmallTypes.ownedTupleIsFree
  rcases hg with rfl | ⟨T, rfl, hT⟩
  · exact wpAny_bind (wpAny_field hz rfl (x := .none) rfl (wpAny_pure h))
  · refine wpAny_bind (wpAny_field hz rfl (x := rawInt T) rfl ?_)
    show wpAny _ _ (loadIfAlive ((T : Int).toNat) >>= _) _ _ _
    rw [Int.toNat_natCast]
    refine wpAny_bind (dead_load hT ?_)
    simp only [Option.isNone_none, if_true]
    exact wpAny_pure h
theorem zg_next_item {z TI TO i1 i2 l1 l2 : Addr} {k1 k2 : Nat} {xs ys : Array Value} {x y a b f0 : Value} {f : Bool} {Q : Value → Shared → Prop} (D : ZipApart z TI TO i1 i2 l1 l2)
    (hz : IsZ s.heap z TI TO f0 f) (hg : ZGone s.heap f0) (hTI : IsPair s.heap TI (.ref i1) (.ref i2)) (hTO : IsPair s.heap TO a b)
    (h1 : s.heap.IsListIter i1 l1 k1) (h2 : s.heap.IsListIter i2 l2 k2) (hl1 : s.heap.IsList l1 xs) (hl2 : s.heap.IsList l2 ys) (hx : xs[k1]? = some x) (hy : ys[k2]? = some y)
    (hQ : ∀ h', IsZ h' z TI TO (rawInt s.heap.objs.size) false → IsPair h' TO x y → h'.IsListIter i1 l1 (k1 + 1) → h'.IsListIter i2 l2 (k2 + 1) → IsPair h' s.heap.objs.size x y → h'.objs.size = s.heap.objs.size + 1 →
      (∀ c o, c ≠ z → c ≠ TO → c ≠ i1 → c ≠ i2 → s.heap.get? c = some o → h'.get? c = some o) → Q (.ref s.heap.objs.size) { s with heap := h' }) :
    wpAny (model prog w) A (Builtin.«zip.__next__» ⟨[.ref z], []⟩) (fun fin s' => ∃ v, fin = .done (.ret v) ∧ Q v s') E s := by
  show wpAny _ _ (field (.ref z) 2 >>= _) _ _ _
  refine wpAny_bind (wpAny_field hz rfl (x := .bool false) rfl ?_)
  show wpAny _ _ (field (.ref z) 3 >>= _) _ _ _
  refine wpAny_bind (wpAny_field hz rfl (x := .ref TI) rfl ?_)
  refine wpAny_bind (wpAny_seqItems hTI rfl ?_)
  show wpAny _ _ (Builtin.SmallTypes.ownedTupleIsFree (.ref z) >>= _) _ _ _
  refine wpAny_bind (z_free hz hg ?_)
  simp only [if_true]
  refine wpAny_bind (wpAny_rule ?_)
  refine wpAny_bind (wpAny_field hz rfl (x := .ref TO) rfl ?_)
  refine wpAny_bind (wpAny_setField_rec hz (by simp) fun h₁ hz₁ hs₁ => ?_)
  replace hz₁ : IsZ h₁ z TI TO .ellipsis f := hz₁
  refine wpAny_bind ?_
  simp only [List.zipIdx_cons, List.zipIdx_nil, List.forIn_cons, List.forIn_nil]
  refine wpAny_bind (wpAny_bind (wpAny_onRaise ?_))
  show wpAny _ _ (Builtin.SmallTypes.nextOf (.ref i1) >>= _) _ _ _
  refine wpAny_bind (wpAny_nextOf_list_item (h1.extBut hs₁.extBut D.i1z) (hl1.extBut hs₁.extBut D.l1z) hx fun h₂ h1₂ hs₂ => wpAny_pure ?_)
  have hTO₂ : IsPair h₂ TO a b := hs₂.extBut _ _ D.TOi1 (hs₁.extBut _ _ D.TOz hTO)
  refine wpAny_bind (wpAny_seqItems hTO₂ rfl ?_)
  refine wpAny_bind (wpAny_updateSeq_pair hTO₂ fun h₃ hTO₃ hs₃ => ?_)
  replace hTO₃ : IsPair h₃ TO x b := hTO₃
  refine wpAny_bind (wpAny_letGo (wpAny_pure ?_))
  refine wpAny_bind (wpAny_bind (wpAny_onRaise ?_))
  show wpAny _ _ (Builtin.SmallTypes.nextOf (.ref i2) >>= _) _ _ _
  refine wpAny_bind (wpAny_nextOf_list_item (((h2.extBut hs₁.extBut D.i2z).extBut hs₂.extBut D.i12.symm).extBut hs₃.extBut D.TOi2.symm)
    (((hl2.extBut hs₁.extBut D.l2z).extBut hs₂.extBut D.l2i1).extBut hs₃.extBut D.l2TO) hy fun h₄ h2₄ hs₄ => wpAny_pure ?_)
  have hTO₄ : IsPair h₄ TO x b := hs₄.extBut _ _ D.TOi2 hTO₃
  refine wpAny_bind (wpAny_seqItems hTO₄ rfl ?_)
  refine wpAny_bind (wpAny_updateSeq_pair hTO₄ fun h₅ hTO₅ hs₅ => ?_)
  replace hTO₅ : IsPair h₅ TO x y := hTO₅
  refine wpAny_bind (wpAny_letGo (wpAny_pure (wpAny_pure ?_)))
  refine wpAny_bind (wpAny_seqItems hTO₅ rfl ?_)
  refine wpAny_bind (wpAny_newTuple ?_)
  have hsz : h₅.objs.size = s.heap.objs.size := by rw [hs₅.1, hs₄.1, hs₃.1, hs₂.1, hs₁.1]
  have hz₅ : IsZ h₅ z TI TO .ellipsis f := hs₅.extBut _ _ D.TOz.symm (hs₄.extBut _ _ D.i2z.symm (hs₃.extBut _ _ D.TOz.symm (hs₂.extBut _ _ D.i1z.symm hz₁)))
  have hk₅ : ∀ c o, c ≠ z → c ≠ TO → c ≠ i1 → c ≠ i2 → s.heap.get? c = some o → h₅.get? c = some o := fun c o c1 c2 c3 c4 e =>
    hs₅.extBut _ _ c2 (hs₄.extBut _ _ c4 (hs₃.extBut _ _ c2 (hs₂.extBut _ _ c3 (hs₁.extBut _ _ c1 e))))
  have h1₅ : h₅.IsListIter i1 l1 (k1 + 1) := ((h1₂.extBut hs₃.extBut D.TOi1.symm).extBut hs₄.extBut D.i12).extBut hs₅.extBut D.TOi1.symm
  have h2₅ : h₅.IsListIter i2 l2 (k2 + 1) := h2₄.extBut hs₅.extBut D.TOi2.symm
  have hzlt : z < h₅.objs.size := Heap.lt_size hz₅
  show wpAny _ _ (Builtin.SmallTypes.ownedTupleHandOut (.ref z) (.ref h₅.objs.size) >>= _) _ _ _
  refine wpAny_bind ?_
  unfold Builtin.SmallTypes.ownedTupleHandOut
  have hz₆ : IsZ (h₅.push { cls := .type "tuple", data := .seq #[x, y] }) z TI TO .ellipsis f := Heap.get?_push_of_some _ hz₅
  refine wpAny_bind (wpAny_setField_rec hz₆ (by simp) fun h₇ hz₇ hs₇ => ?_)
  replace hz₇ : IsZ h₇ z TI TO (rawInt h₅.objs.size) f := hz₇
  refine wpAny_setField_rec hz₇ (by simp) fun h₈ hz₈ hs₈ => ?_
  replace hz₈ : IsZ h₈ z TI TO (rawInt h₅.objs.size) false := hz₈
  have up : ∀ c o, c ≠ z → h₅.get? c = some o → h₈.get? c = some o := fun c o c1 e => hs₈.extBut _ _ c1 (hs₇.extBut _ _ c1 (Heap.get?_push_of_some _ e))
  have hT₈ : IsPair h₈ h₅.objs.size x y := hs₈.extBut _ _ (Nat.ne_of_gt hzlt) (hs₇.extBut _ _ (Nat.ne_of_gt hzlt) (Heap.get?_push_size _ rfl))
  have hz8 : h₈.objs.size = h₅.objs.size + 1 := by rw [hs₈.1, hs₇.1, Heap.size_push]
  rw [hsz] at hz₈ hT₈ hz8
  refine wpAny_pure ⟨_, rfl, ?_⟩
  show Q (.ref h₅.objs.size) _
  rw [hsz]
  exact hQ h₈ hz₈ (up _ _ D.TOz hTO₅) (h1₅.at fun o e => up _ o D.i1z e) (h2₅.at fun o e => up _ o D.i2z e) hT₈ hz8 fun c o c1 c2 c3 c4 e => up c o c1 (hk₅ c o c1 c2 c3 c4 e)
theorem zg_next_end {z TI TO i1 i2 l1 l2 : Addr} {k1 k2 : Nat} {xs ys : Array Value} {a b f0 : Value} {f : Bool} {Q : Fin → Shared → Prop} (hh : A.handled = none) (D : ZipApart z TI TO i1 i2 l1 l2)
    (hz : IsZ s.heap z TI TO f0 f) (hg : ZGone s.heap f0) (hTI : IsPair s.heap TI (.ref i1) (.ref i2)) (hTO : IsPair s.heap TO a b)
    (h1 : s.heap.IsListIter i1 l1 k1) (h2 : s.heap.IsListIter i2 l2 k2) (hl1 : s.heap.IsList l1 xs) (hl2 : s.heap.IsList l2 ys) (hend : xs[k1]? = none ∨ ys[k2]? = none)
    (hE : ∀ h' e, (∀ c o, c ≠ z → c ≠ TO → c ≠ i1 → c ≠ i2 → s.heap.get? c = some o → h'.get? c = some o) → (∃ o, h'.get? e = some o ∧ o.cls = .type "StopIteration") → E (.ref e) { s with heap := h' }) :
    wpAny (model prog w) A (Builtin.«zip.__next__» ⟨[.ref z], []⟩) Q E s := by
  show wpAny _ _ (field (.ref z) 2 >>= _) _ _ _
  refine wpAny_bind (wpAny_field hz rfl (x := .bool false) rfl ?_)
  show wpAny _ _ (field (.ref z) 3 >>= _) _ _ _
  refine wpAny_bind (wpAny_field hz rfl (x := .ref TI) rfl ?_)
  refine wpAny_bind (wpAny_seqItems hTI rfl ?_)
  show wpAny _ _ (Builtin.SmallTypes.ownedTupleIsFree (.ref z) >>= _) _ _ _
  refine wpAny_bind (z_free hz hg ?_)
  simp only [if_true]
  refine wpAny_bind (wpAny_rule ?_)
  refine wpAny_bind (wpAny_field hz rfl (x := .ref TO) rfl ?_)
  refine wpAny_bind (wpAny_setField_rec hz (by simp) fun h₁ hz₁ hs₁ => ?_)
  replace hz₁ : IsZ h₁ z TI TO .ellipsis f := hz₁
  refine wpAny_bind ?_
  simp only [List.zipIdx_cons, List.zipIdx_nil, List.forIn_cons, List.forIn_nil]
  refine wpAny_bind (wpAny_bind (wpAny_onRaise ?_))
  show wpAny _ _ (Builtin.SmallTypes.nextOf (.ref i1) >>= _) _ _ _
  cases hx : xs[k1]? with
  | none =>
    refine wpAny_bind (wpAny_nextOf_list_end hh (h1.extBut hs₁.extBut D.i1z) (hl1.extBut hs₁.extBut D.l1z) hx fun h₂ e hs₂ he => ?_)
    obtain ⟨oe, hoe, hce⟩ := he
    have hz₂ : IsZ h₂ z TI TO .ellipsis f := hs₂ _ _ D.i1z.symm hz₁
    have hez : e ≠ z := fun x => by subst x; rw [hz₂] at hoe; cases hoe; simp at hce
    refine wpAny_setField_rec hz₂ (by simp) fun h₃ _ hs₃ => hE h₃ e (fun c o c1 _ c3 _ x => hs₃.extBut _ _ c1 (hs₂ _ _ c3 (hs₁.extBut _ _ c1 x))) ⟨oe, hs₃.extBut _ _ hez hoe, hce⟩
  | some x =>
    have hy : ys[k2]? = none := by rcases hend with h | h; rw [hx] at h; cases h; exact h
    refine wpAny_bind (wpAny_nextOf_list_item (h1.extBut hs₁.extBut D.i1z) (hl1.extBut hs₁.extBut D.l1z) hx fun h₂ h1₂ hs₂ => wpAny_pure ?_)
    have hTO₂ : IsPair h₂ TO a b := hs₂.extBut _ _ D.TOi1 (hs₁.extBut _ _ D.TOz hTO)
    refine wpAny_bind (wpAny_seqItems hTO₂ rfl ?_)
    refine wpAny_bind (wpAny_updateSeq_pair hTO₂ fun h₃ hTO₃ hs₃ => ?_)
    refine wpAny_bind (wpAny_letGo (wpAny_pure ?_))
    refine wpAny_bind (wpAny_bind (wpAny_onRaise ?_))
    show wpAny _ _ (Builtin.SmallTypes.nextOf (.ref i2) >>= _) _ _ _
    refine wpAny_bind (wpAny_nextOf_list_end hh (((h2.extBut hs₁.extBut D.i2z).extBut hs₂.extBut D.i12.symm).extBut hs₃.extBut D.TOi2.symm)
      (((hl2.extBut hs₁.extBut D.l2z).extBut hs₂.extBut D.l2i1).extBut hs₃.extBut D.l2TO) hy fun h₄ e hs₄ he => ?_)
    obtain ⟨oe, hoe, hce⟩ := he
    have hz₄ : IsZ h₄ z TI TO .ellipsis f := hs₄ _ _ D.i2z.symm (hs₃.extBut _ _ D.TOz.symm (hs₂.extBut _ _ D.i1z.symm hz₁))
    have hez : e ≠ z := fun x => by subst x; rw [hz₄] at hoe; cases hoe; simp at hce
    refine wpAny_setField_rec hz₄ (by simp) fun h₅ _ hs₅ => hE h₅ e (fun c o c1 c2 c3 c4 x => hs₅.extBut _ _ c1 (hs₄ _ _ c4 (hs₃.extBut _ _ c2 (hs₂.extBut _ _ c3 (hs₁.extBut _ _ c1 x))))) ⟨oe, hs₅.extBut _ _ hez hoe, hce⟩
/-- the cells of a zip of two lists that stands at k -/
def ZAt (h : Heap) (z TI TO i1 i2 l1 l2 : Addr) (k : Nat) : Prop := (∃ (f0 : Value) (f : Bool), IsZ h z TI TO f0 f ∧ (f0 = .none ∨ ∃ T : Addr, f0 = rawInt T)) ∧ IsPair h TI (.ref i1) (.ref i2) ∧ (∃ a b, IsPair h TO a b) ∧ h.IsListIter i1 l1 k ∧ h.IsListIter i2 l2 k
/-- a turn of the zip, whatever became of the tuple before -/
theorem zip_any_item {z TI TO i1 i2 l1 l2 : Addr} {k : Nat} {xs ys : Array Value} {x y : Value} {Q : Value → Shared → Prop} (D : ZipApart z TI TO i1 i2 l1 l2)
    (hz : ZAt s.heap z TI TO i1 i2 l1 l2 k) (hl1 : s.heap.IsList l1 xs) (hl2 : s.heap.IsList l2 ys) (hx : xs[k]? = some x) (hy : ys[k]? = some y)
    (hQ : ∀ h', ZAt h' z TI TO i1 i2 l1 l2 (k + 1) → IsPair h' s.heap.objs.size x y → h'.objs.size = s.heap.objs.size + 1 →
      (∀ c o, c ≠ z → c ≠ TO → c ≠ i1 → c ≠ i2 → s.heap.get? c = some o → h'.get? c = some o) → Q (.ref s.heap.objs.size) { s with heap := h' }) :
    wpAny (model prog w) A (Builtin.«zip.__next__» ⟨[.ref z], []⟩) (fun fin s' => ∃ v, fin = .done (.ret v) ∧ Q v s') E s := by
  obtain ⟨⟨f0, f, hz, hf⟩, hTI, ⟨a, b, hTO⟩, h1, h2⟩ := hz
  have free : ZGone s.heap f0 → wpAny (model prog w) A (Builtin.«zip.__next__» ⟨[.ref z], []⟩) (fun fin s' => ∃ v, fin = .done (.ret v) ∧ Q v s') E s := fun hg =>
    zg_next_item D hz hg hTI hTO h1 h2 hl1 hl2 hx hy fun h' a1 a2 a3 a4 a5 a6 a7 => hQ h' ⟨⟨_, _, a1, .inr ⟨_, rfl⟩⟩, a7 _ _ D.TIz D.TITO D.TIi1 D.TIi2 hTI, ⟨_, _, a2⟩, a3, a4⟩ a5 a6 a7
  rcases hf with rfl | ⟨T, rfl⟩
  · exact free (.inl rfl)
  · cases hT : s.heap.get? T with
    | none => exact free (.inr ⟨T, rfl, hT⟩)
    | some oT =>
      exact zip_next_item_held D hz hT hTI h1 h2 hl1 hl2 hx hy fun h' a1 a2 a3 a4 a5 a6 => hQ h' ⟨⟨_, _, a1, .inr ⟨_, rfl⟩⟩, a6 _ _ D.TIz D.TIi1 D.TIi2 hTI, ⟨_, _, a6 _ _ D.TOz D.TOi1 D.TOi2 hTO⟩, a2, a3⟩ a4 a5 fun c o c1 _ c3 c4 e => a6 c o c1 c3 c4 e
theorem zip_any_end {z TI TO i1 i2 l1 l2 : Addr} {k : Nat} {xs ys : Array Value} {Q : Fin → Shared → Prop} (hh : A.handled = none) (D : ZipApart z TI TO i1 i2 l1 l2)
    (hz : ZAt s.heap z TI TO i1 i2 l1 l2 k) (hl1 : s.heap.IsList l1 xs) (hl2 : s.heap.IsList l2 ys) (hend : xs[k]? = none ∨ ys[k]? = none)
    (hE : ∀ h' e, (∀ c o, c ≠ z → c ≠ TO → c ≠ i1 → c ≠ i2 → s.heap.get? c = some o → h'.get? c = some o) → (∃ o, h'.get? e = some o ∧ o.cls = .type "StopIteration") → E (.ref e) { s with heap := h' }) :
    wpAny (model prog w) A (Builtin.«zip.__next__» ⟨[.ref z], []⟩) Q E s := by
  obtain ⟨⟨f0, f, hz, hf⟩, hTI, ⟨a, b, hTO⟩, h1, h2⟩ := hz
  rcases hf with rfl | ⟨T, rfl⟩
  · exact zg_next_end hh D hz (.inl rfl) hTI hTO h1 h2 hl1 hl2 hend hE
  · cases hT : s.heap.get? T with
    | none => exact zg_next_end hh D hz (.inr ⟨T, rfl, hT⟩) hTI hTO h1 h2 hl1 hl2 hend hE
    | some oT => exact zip_next_end_held hh D hz hT hTI h1 h2 hl1 hl2 hend fun h' e k' => hE h' e fun c o c1 _ c3 c4 x => k' c o c1 c3 c4 x
theorem ZAt.isz {h : Heap} {z TI TO i1 i2 l1 l2 : Addr} {k : Nat} (a : ZAt h z TI TO i1 i2 l1 l2 k) : ∃ o, h.get? z = some o ∧ o.cls = .type "zip" := by
  obtain ⟨⟨f0, f, hz, _⟩, _⟩ := a
  exact ⟨_, hz, rfl⟩
theorem ZAt.at {h h' : Heap} {z TI TO i1 i2 l1 l2 : Addr} {k : Nat} (a : ZAt h z TI TO i1 i2 l1 l2 k) (e : ∀ b ∈ [z, TI, TO, i1, i2], ∀ o, h.get? b = some o → h'.get? b = some o) : ZAt h' z TI TO i1 i2 l1 l2 k := by
  obtain ⟨⟨f0, f, hz, hf⟩, hTI, ⟨x, y, hTO⟩, h1, h2⟩ := a
  exact ⟨⟨f0, f, e z (by simp) _ hz, hf⟩, e TI (by simp) _ hTI, ⟨x, y, e TO (by simp) _ hTO⟩, h1.at fun o q => e i1 (by simp) o q, h2.at fun o q => e i2 (by simp) o q⟩
theorem nextOf_zip_item {z TI TO i1 i2 l1 l2 : Addr} {k : Nat} {xs ys : Array Value} {x y : Value} {Q : Value → Shared → Prop} (D : ZipApart z TI TO i1 i2 l1 l2)
    (hz : ZAt s.heap z TI TO i1 i2 l1 l2 k) (hl1 : s.heap.IsList l1 xs) (hl2 : s.heap.IsList l2 ys) (hx : xs[k]? = some x) (hy : ys[k]? = some y)
    (hQ : ∀ h', ZAt h' z TI TO i1 i2 l1 l2 (k + 1) → IsPair h' s.heap.objs.size x y → h'.objs.size = s.heap.objs.size + 1 →
      (∀ c o, c ≠ z → c ≠ TO → c ≠ i1 → c ≠ i2 → s.heap.get? c = some o → h'.get? c = some o) → Q (.ref s.heap.objs.size) { s with heap := h' }) :
    wpAny (model prog w) A (Builtin.SmallTypes.nextOf (.ref z)) Q E s := by
  have hT : s.TypeIs (.ref z) "zip" := hz.isz
  unfold Builtin.SmallTypes.nextOf
  exact wpAny_bind (wpAny_callSpecial?_slot (name := Str.ofString "__next__") hT F.slot_zip_next
    (wpAny_call_entry F.slot_zip_next hT F.entry_zip_next (zip_any_item D hz hl1 hl2 hx hy fun h1 a b c d => wpAny_pure (hQ h1 a b c d)) (F.args_zip_next_1 _)))
theorem nextOf_zip_end {z TI TO i1 i2 l1 l2 : Addr} {k : Nat} {xs ys : Array Value} {Q : Value → Shared → Prop} (hh : A.handled = none) (D : ZipApart z TI TO i1 i2 l1 l2)
    (hz : ZAt s.heap z TI TO i1 i2 l1 l2 k) (hl1 : s.heap.IsList l1 xs) (hl2 : s.heap.IsList l2 ys) (hend : xs[k]? = none ∨ ys[k]? = none)
    (hE : ∀ h' e, (∀ c o, c ≠ z → c ≠ TO → c ≠ i1 → c ≠ i2 → s.heap.get? c = some o → h'.get? c = some o) → (∃ o, h'.get? e = some o ∧ o.cls = .type "StopIteration") → E (.ref e) { s with heap := h' }) :
    wpAny (model prog w) A (Builtin.SmallTypes.nextOf (.ref z)) Q E s := by
  have hT : s.TypeIs (.ref z) "zip" := hz.isz
  unfold Builtin.SmallTypes.nextOf
  exact wpAny_bind (wpAny_callSpecial?_slot (name := Str.ofString "__next__") hT F.slot_zip_next
    (wpAny_call_entry F.slot_zip_next hT F.entry_zip_next (zip_any_end hh D hz hl1 hl2 hend hE) (F.args_zip_next_1 _)))
theorem enumZ_next_item {e z TI TO i1 i2 l1 l2 : Addr} {k : Nat} {c : Int} {xs ys : Array Value} {x y old : Value} {Q : Value → Shared → Prop} (D : ZipApart z TI TO i1 i2 l1 l2)
    (he : IsEnum s.heap e z c old) (hz : ZAt s.heap z TI TO i1 i2 l1 l2 k) (hl1 : s.heap.IsList l1 xs) (hl2 : s.heap.IsList l2 ys) (hx : xs[k]? = some x) (hy : ys[k]? = some y) (hne : e ∉ [z, TI, TO, i1, i2])
    (hQ : ∀ h' tk, IsEnumOut h' e z (c + 1) (.ref s.heap.objs.size) (s.heap.objs.size + 1) → ZAt h' z TI TO i1 i2 l1 l2 (k + 1) → IsPair h' s.heap.objs.size x y →
      h'.get? (s.heap.objs.size + 1) = some { cls := .type "tuple", data := .seq #[.int c tk, .ref s.heap.objs.size] } → h'.objs.size = s.heap.objs.size + 2 →
      (∀ b o, b ≠ e → b ≠ z → b ≠ TO → b ≠ i1 → b ≠ i2 → s.heap.get? b = some o → h'.get? b = some o) → Q (.ref (s.heap.objs.size + 1)) { s with heap := h', toks := tk + 1 }) :
    wpAny (model prog w) A (Builtin.«enumerate.__next__» ⟨[.ref e], []⟩) (fun fin s' => ∃ v, fin = .done (.ret v) ∧ Q v s') E s := by
  obtain ⟨hp, g, d, tk, os⟩ := s
  have ne1 : ∀ b ∈ [z, TI, TO, i1, i2], b ≠ e := fun b hb q => hne (q ▸ hb)
  show wpAny _ _ (field (.ref e) 2 >>= _) _ _ _
  refine wpAny_bind (wpAny_field he rfl (x := .ref z) rfl ?_)
  refine wpAny_bind (nextOf_zip_item (s := ⟨hp, g, d, tk, os⟩) D hz hl1 hl2 hx hy fun h₁ hz₁ hp₁ hs₁ hk₁ => ?_)
  replace hs₁ : h₁.objs.size = hp.objs.size + 1 := hs₁
  replace hk₁ : ∀ c o, c ≠ z → c ≠ TO → c ≠ i1 → c ≠ i2 → hp.get? c = some o → h₁.get? c = some o := hk₁
  replace hp₁ : IsPair h₁ hp.objs.size x y := hp₁
  have he₁ : IsEnum h₁ e z c old := hk₁ _ _ (fun q => ne1 z (by simp) q.symm) (fun q => ne1 TO (by simp) q.symm) (fun q => ne1 i1 (by simp) q.symm) (fun q => ne1 i2 (by simp) q.symm) he
  have hel : e < hp.objs.size := Heap.lt_size he
  show wpAny _ _ (field (.ref e) 3 >>= _) _ _ ⟨h₁, g, d, tk, os⟩
  refine wpAny_bind (wpAny_field he₁ rfl (x := rawInt c) rfl ?_)
  show wpAny _ _ (field (.ref e) 4 >>= _) _ _ ⟨h₁, g, d, tk, os⟩
  refine wpAny_bind (wpAny_field he₁ rfl (x := .none) rfl ?_)
  show wpAny _ _ (mkInt c >>= _) _ _ ⟨h₁, g, d, tk, os⟩
  refine wpAny_bind (wpAny_mkInt ?_)
  show wpAny _ _ (setField (.ref e) 3 (rawInt (c + 1)) >>= _) _ _ ⟨h₁, g, d, tk + 1, os⟩
  refine wpAny_bind (wpAny_setField_rec he₁ (by simp) fun h₂ he₂ hs₂ => ?_)
  replace hs₂ : Heap.SameBut e h₁ h₂ := hs₂
  replace he₂ : IsEnum h₂ e z (c + 1) old := he₂
  show wpAny _ _ (setField (.ref e) 4 .none >>= _) _ _ ⟨h₂, g, d, tk + 1, os⟩
  refine wpAny_bind (wpAny_setField_rec he₂ (by simp) fun h₃ he₃ hs₃ => ?_)
  replace hs₃ : Heap.SameBut e h₂ h₃ := hs₃
  replace he₃ : IsEnum h₃ e z (c + 1) old := he₃
  show wpAny _ _ (newTuple [.int c tk, .ref hp.objs.size] >>= _) _ _ ⟨h₃, g, d, tk + 1, os⟩
  refine wpAny_bind (wpAny_newTuple ?_)
  have he₄ : IsEnum (h₃.push { cls := .type "tuple", data := .seq #[.int c tk, .ref hp.objs.size] }) e z (c + 1) old := Heap.get?_push_of_some _ he₃
  generalize hh₄ : h₃.push { cls := .type "tuple", data := .seq #[.int c tk, .ref hp.objs.size] } = h₄ at he₄
  have hsz : h₃.objs.size = hp.objs.size + 1 := by rw [hs₃.1, hs₂.1, hs₁]
  have ht₄ : h₄.get? (hp.objs.size + 1) = some { cls := .type "tuple", data := .seq #[.int c tk, .ref hp.objs.size] } := by rw [← hh₄, ← hsz]; exact Heap.get?_push_size _ rfl
  have hz₄ : h₄.objs.size = hp.objs.size + 2 := by rw [← hh₄, Heap.size_push, hsz]
  have hk₄ : ∀ b o, b ≠ e → h₁.get? b = some o → h₄.get? b = some o := fun b o hbe hb => by
    rw [← hh₄]
    exact Heap.get?_push_of_some _ (hs₃.extBut b o hbe (hs₂.extBut b o hbe hb))
  show wpAny _ _ (Builtin.SmallTypes.ownedTupleIsFree (.ref e) >>= _) _ _ ⟨h₄, g, d, tk + 1, os⟩
  rw [hsz]
  clear hh₄ he₃ hs₃ he₂ hs₂ hsz h₃ h₂
  refine wpAny_bind ?_
  · unfold Builtin.SmallTypes.ownedTupleIsFree
    refine wpAny_bind (wpAny_field he₄ rfl (x := .none) rfl (wpAny_pure ?_))
    simp only [if_true]
    refine wpAny_bind (wpAny_rule ?_)
    refine wpAny_bind (wpAny_field he₄ rfl (x := old) rfl ?_)
    refine wpAny_bind (wpAny_setField_rec he₄ (by simp) fun h₅ he₅ hs₅ => ?_)
    replace hs₅ : Heap.SameBut e h₄ h₅ := hs₅
    replace he₅ : IsEnum h₅ e z (c + 1) (.ref hp.objs.size) := he₅
    show wpAny _ _ (Builtin.SmallTypes.ownedTupleHandOut (.ref e) (.ref (hp.objs.size + 1)) >>= _) _ _ ⟨h₅, g, d, tk + 1, os⟩
    refine wpAny_bind ?_
    · unfold Builtin.SmallTypes.ownedTupleHandOut
      refine wpAny_bind (wpAny_setField_rec he₅ (by simp) fun h₆ he₆ hs₆ => ?_)
      replace hs₆ : Heap.SameBut e h₅ h₆ := hs₆
      replace he₆ : IsEnumOut h₆ e z (c + 1) (.ref hp.objs.size) (hp.objs.size + 1) := he₆
      refine wpAny_setField_rec he₆ (by simp) fun h₇ he₇ hs₇ => ?_
      replace hs₇ : Heap.SameBut e h₆ h₇ := hs₇
      replace he₇ : IsEnumOut h₇ e z (c + 1) (.ref hp.objs.size) (hp.objs.size + 1) := he₇
      have hk₇ : ∀ b o, b ≠ e → h₄.get? b = some o → h₇.get? b = some o := fun b o hbe q => hs₇.extBut b o hbe (hs₆.extBut b o hbe (hs₅.extBut b o hbe q))
      refine wpAny_bind (wpAny_letGo (wpAny_pure ⟨_, rfl, hQ h₇ tk he₇ ?_ ?_ ?_ ?_ ?_⟩))
      · exact hz₁.at fun b hb o q => hk₇ b o (ne1 b hb) (hk₄ b o (ne1 b hb) q)
      · exact hk₇ _ _ (Nat.ne_of_gt hel) (hk₄ _ _ (Nat.ne_of_gt hel) hp₁)
      · exact hk₇ _ _ (fun q => absurd hel (by rw [← q]; exact Nat.not_lt.mpr (Nat.le_succ _))) ht₄
      · rw [hs₇.1, hs₆.1, hs₅.1, hz₄]
      · exact fun b o h1 h2 h3 h4 h5 q => hk₇ b o h1 (hk₄ b o h1 (hk₁ b o h2 h3 h4 h5 q))
theorem pyNext_enumZ_item {e z TI TO i1 i2 l1 l2 : Addr} {k : Nat} {c : Int} {xs ys : Array Value} {x y old : Value} {Q : Option Value → Shared → Prop} (D : ZipApart z TI TO i1 i2 l1 l2)
    (he : IsEnum s.heap e z c old) (hz : ZAt s.heap z TI TO i1 i2 l1 l2 k) (hl1 : s.heap.IsList l1 xs) (hl2 : s.heap.IsList l2 ys) (hx : xs[k]? = some x) (hy : ys[k]? = some y) (hne : e ∉ [z, TI, TO, i1, i2])
    (hQ : ∀ h' tk, IsEnumOut h' e z (c + 1) (.ref s.heap.objs.size) (s.heap.objs.size + 1) → ZAt h' z TI TO i1 i2 l1 l2 (k + 1) → IsPair h' s.heap.objs.size x y →
      h'.get? (s.heap.objs.size + 1) = some { cls := .type "tuple", data := .seq #[.int c tk, .ref s.heap.objs.size] } → h'.objs.size = s.heap.objs.size + 2 →
      (∀ b o, b ≠ e → b ≠ z → b ≠ TO → b ≠ i1 → b ≠ i2 → s.heap.get? b = some o → h'.get? b = some o) → Q (some (.ref (s.heap.objs.size + 1))) { s with heap := h', toks := tk + 1 }) :
    wpAny (model prog w) A (pyNext (.ref e)) Q E s := by
  have hT : s.TypeIs (.ref e) "enumerate" := ⟨_, he, rfl⟩
  unfold pyNext
  exact wpAny_bind (wpAny_attempt (wpAny_callSpecial?_slot (name := Str.ofString "__next__") hT F.slot_enumerate_next
    (wpAny_call_entry F.slot_enumerate_next hT F.entry_enumerate_next
      (enumZ_next_item D he hz hl1 hl2 hx hy hne fun h' tk a b c d k q => wpAny_pure (hQ h' tk a b c d k q)) (F.args_enumerate_next_1 _))))
theorem pyNext_enumZ_end {e z TI TO i1 i2 l1 l2 : Addr} {k : Nat} {c : Int} {xs ys : Array Value} {old : Value} {Q : Option Value → Shared → Prop} (hh : A.handled = none) (D : ZipApart z TI TO i1 i2 l1 l2)
    (he : IsEnum s.heap e z c old) (hz : ZAt s.heap z TI TO i1 i2 l1 l2 k) (hl1 : s.heap.IsList l1 xs) (hl2 : s.heap.IsList l2 ys) (hend : xs[k]? = none ∨ ys[k]? = none)
    (hQ : ∀ h', (∀ c o, c ≠ z → c ≠ TO → c ≠ i1 → c ≠ i2 → s.heap.get? c = some o → h'.get? c = some o) → Q none { s with heap := h' }) : wpAny (model prog w) A (pyNext (.ref e)) Q E s := by
  have hT : s.TypeIs (.ref e) "enumerate" := ⟨_, he, rfl⟩
  unfold pyNext
  refine wpAny_bind (wpAny_attempt (wpAny_callSpecial?_slot (name := Str.ofString "__next__") hT F.slot_enumerate_next
    (wpAny_call_entry F.slot_enumerate_next hT F.entry_enumerate_next ?_ (F.args_enumerate_next_1 _))))
  show wpAny _ _ (field (.ref e) 2 >>= _) _ _ _
  refine wpAny_bind (wpAny_field he rfl (x := .ref z) rfl ?_)
  refine wpAny_bind (nextOf_zip_end (by exact hh) D hz hl1 hl2 hend fun h' x hk hx' => ?_)
  obtain ⟨o, ho, hc⟩ := hx'
  refine wpAny_bind (wpAny_isInstance (T := "StopIteration") (b := true) ⟨o, ho, hc⟩ isSubtype_stop ?_)
  exact wpAny_pure (hQ _ hk)
end
end PySem

namespace PySem
open Sem (wp)
/-! the enumerate of a zip is made -/
namespace F
end F
set_option maxHeartbeats 4000000 in
theorem meets_enumerate_newZ {z TI TO : Addr} {f0 : Value} (k : Int) (t : Tok) (hfit : Builtin.SmallTypes.fitsIndex k = true) :
    Meets (Builtin.«enumerate.__new__» ⟨[.type "enumerate", .ref z], [(Str.ofString "start", .int k t)]⟩) (fun _ R s => IsZip s.heap z TI TO f0 ∧
      R (.ok (.ret (.ref s.heap.objs.size))) { s with heap := s.heap.push { cls := .type "enumerate", data := .fields #[.none, .bool false, .ref z, rawInt k, .none, .none] } }) :=
  .of_wp fun prog w A R s h => by
    obtain ⟨hp, g, d, tk, os⟩ := s; obtain ⟨h1, h⟩ := h
    have hsub := sub_enumerate
    have hnf : (!Builtin.SmallTypes.fitsIndex k) = false := by rw [hfit]; rfl
    have q1 : ∀ {A' : Around} {E : Value → Shared → Prop} {Q : Value → Shared → Prop}, Q (.ref z) ⟨hp, g, d, tk, os⟩ → wpAny (model prog w) A' (pyIter (.ref z)) Q E ⟨hp, g, d, tk, os⟩ :=
      fun q => wpAny_pyIter_zip (s := ⟨hp, g, d, tk, os⟩) h1 q
    have e1 : (Str.ofString "start" == ("start" : Str)) = true := by decide +kernel
    have e2 : (Str.ofString "start" != ("start" : Str)) = false := by decide +kernel
    have e3 : (Str.ofString "start" != ("iterable" : Str)) = true := by decide +kernel
    have e4 : (("start" : Str) == Str.ofString "start") = true := by decide +kernel
    have e5 : (("iterable" : Str) == Str.ofString "start") = false := by decide +kernel
    wp_walk using q1
    refine wpAny_stack_any fun st => wpAny_pure ?_
    split
    · rename_i c _ _ _ _ _
      cases (c == Value.type "enumerate")
      · wp_walk using q1
        exact ⟨_, rfl, h⟩
      · wp_walk using q1
        exact ⟨_, rfl, h⟩
    · wp_walk using q1
      exact ⟨_, rfl, h⟩
section
variable {prog : Program} {w : World} {A : Around} {E : Value → Shared → Prop} {s : Shared}
theorem enumZ_begins {z TI TO : Addr} {f0 : Value} {k : Int} {t : Tok} {Q : Value → Shared → Prop} (h1 : IsZip s.heap z TI TO f0) (hk0 : -(2 ^ 63) ≤ k) (hk1 : k < 2 ^ 63)
    (h : ∀ h', IsEnum h' s.heap.objs.size z k .none → h'.objs.size = s.heap.objs.size + 1 → (∀ b o, s.heap.get? b = some o → h'.get? b = some o) → Q (.ref s.heap.objs.size) { s with heap := h' }) :
    wpAny (model prog w) A (call (.type "enumerate") [.ref z] [(Str.ofString "start", .int k t)]) Q E s := by
  refine callType_newKw F.called_enumerate (by decide) (F.typeCall_enumerate_start _ _) (F.newCall_enumerate_start _ _) (fun obj => F.args_object_init_start obj _ _) F.entry_enumerate_new
    (meets_enumerate_newZ k t (fits_start hk0 hk1)) ⟨h1, ?_⟩
  show _ ∧ _
  have he : IsEnum (s.heap.push { cls := .type "enumerate", data := .fields #[.none, .bool false, .ref z, rawInt k, .none, .none] }) s.heap.objs.size z k .none := Heap.get?_push_size _ rfl
  exact ⟨⟨_, he, rfl⟩, h _ he (Heap.size_push ..) fun b o x => Heap.get?_push_of_some _ x⟩
end
end PySem
namespace Bk
open PySem PySem.Spec PyProof.Rows L2
/-- the lists at a and b, the items in new pairs, each in a new pair with its number, from c on -/
def Itez (K : PySem.W.Frag) (a b : Addr) (c : Int) : It :=
  ⟨fun i H => ∃ (xs ys : List V) (x y : V), SqL K H a xs ∧ SqL K H b ys ∧ xs[i]? = some x ∧ ys[i]? = some y,
   fun i H v H' => ∃ T P x y, v = .ref P ∧ H T = none ∧ H P = none ∧ P ≠ T ∧ H' = upd (upd H T (.tup [x, y])) P (.tup [.int (c + (i : Nat)), .ref T]) ∧ (∀ xs, SqL K H a xs → xs[i]? = some x) ∧ ∀ ys, SqL K H b ys → ys[i]? = some y,
   fun i H => ∃ xs ys : List V, SqL K H a xs ∧ SqL K H b ys ∧ (xs.length ≤ i ∨ ys.length ≤ i)⟩
theorem turn_enumZ {P : Program} {w : World} {K : PySem.W.Frag} {elts : List Expr} {kk : Nat} {tpos : Pos} {a b e z TI TO i1 i2 : Addr} (c : Int) (D : ZipApart z TI TO i1 i2 a b) (hne : e ∉ [z, TI, TO, i1, i2]) :
    Turn P w K (.Tuple elts kk tpos) (Itez K a b c) [e, z, TI, TO, i1, i2] e (fun i h => (∃ old, IsEnum h e z (c + ((i : Nat) : Int)) old) ∧ ZAt h z TI TO i1 i2 a b i) where
  mem := by simp
  obj := by
    intro i h st d hd
    obtain ⟨⟨old, he⟩, ⟨f0, f, hz, _⟩, hTI, ⟨x, y, hTO⟩, ⟨o1, e1, _, d1⟩, ⟨o2, e2, _, d2⟩⟩ := st
    have e' : d = e ∨ d = z ∨ d = TI ∨ d = TO ∨ d = i1 ∨ d = i2 := by simpa using hd
    rcases e' with q | q | q | q | q | q
    · rw [q]; exact ⟨_, he, fun v q => nomatch q⟩
    · rw [q]; exact ⟨_, hz, fun v q => nomatch q⟩
    · rw [q]; exact ⟨_, hTI, fun v q => nomatch q⟩
    · rw [q]; exact ⟨_, hTO, fun v q => nomatch q⟩
    · rw [q]; exact ⟨o1, e1, fun v q => by rw [d1] at q; cases q⟩
    · rw [q]; exact ⟨o2, e2, fun v q => by rw [d2] at q; cases q⟩
  keep := by
    intro i h h' st k
    obtain ⟨⟨old, he⟩, hz⟩ := st
    exact ⟨⟨old, k e (by simp) _ he⟩, hz.at fun b hb o q => k b (List.mem_cons_of_mem _ hb) o q⟩
  item := by
    intro X hP hw hK hc i pins s σ H E I hf st hg
    subst hP hw hK
    obtain ⟨⟨old, he⟩, hz⟩ := st
    obtain ⟨xs, ys, x, y, hqx, hqy, hx, hy⟩ := hg
    obtain ⟨its, rv, p, _⟩ := I.list hqx
    obtain ⟨its2, rv2, p2, _⟩ := I.list hqy
    obtain ⟨u, hu, ru⟩ := rv.get hx
    obtain ⟨u2, hu2, ru2⟩ := rv2.get hy
    have lt : ∀ d ∈ [e, z, TI, TO, i1, i2], d < s.heap.objs.size := by
      intro d hd
      have e' : d = e ∨ d = z ∨ d = TI ∨ d = TO ∨ d = i1 ∨ d = i2 := by simpa using hd
      obtain ⟨⟨f0, f, hz, _⟩, hTI, ⟨x, y, hTO⟩, ⟨o1, e1, _⟩, ⟨o2, e2, _⟩⟩ := hz
      rcases e' with q | q | q | q | q | q
      · rw [q]; exact Heap.lt_size he
      · rw [q]; exact Heap.lt_size hz
      · rw [q]; exact Heap.lt_size hTI
      · rw [q]; exact Heap.lt_size hTO
      · rw [q]; exact Heap.lt_size e1
      · rw [q]; exact Heap.lt_size e2
    refine pyNext_enumZ_item D he hz p.isList p2.isList (x := u) (y := u2) (by simpa using hu) (by simpa using hu2) hne fun h' tk ho z' hT hPr hsz hk => ?_
    refine ⟨_, rfl, wpAny_letOwnedTupleGo_enum (s := { s with heap := h', toks := tk + 1 }) ho fun h'' he' sb => ?_⟩
    replace sb : Heap.SameBut e h' h'' := sb
    have hel := lt e (by simp)
    have hT2 : h''.get? s.heap.objs.size = some { cls := .type "tuple", data := .seq #[u, u2] } := (sb.2 _ (Nat.ne_of_gt hel)).trans hT
    have hP2 : h''.get? (s.heap.objs.size + 1) = some { cls := .type "tuple", data := .seq #[.int (c + (i : Nat)) tk, .ref s.heap.objs.size] } := (sb.2 _ (Nat.ne_of_gt (Nat.lt_succ_of_lt hel))).trans hPr
    have gT : (s.heap.push { cls := .type "tuple", data := .seq #[u, u2] }).get? s.heap.objs.size = some { cls := .type "tuple", data := .seq #[u, u2] } := Heap.get?_push_size _ rfl
    have newT : ObjOk X.prog X.w (upd H s.heap.objs.size (.tup [x, y])) (s.heap.push { cls := .type "tuple", data := .seq #[u, u2] }) s.heap.objs.size (.tup [x, y]) :=
      ⟨by show 2 ≤ sizeLine; decide, [u, u2], .cons ru (.cons ru2 .nil), ⟨_, gT, rfl, _, rfl⟩⟩
    have I1 : Inv X pins σ (upd H s.heap.objs.size (.tup [x, y])) { s with heap := s.heap.push { cls := .type "tuple", data := .seq #[u, u2] }, toks := s.toks } :=
      I.turnedNew (t' := s.toks) (ch := []) (fun b o _ q => Heap.get?_push_of_some _ q) (fun b hb => nomatch hb) (Nat.le_refl _) newT
    have hf1 : ∀ d ∈ [e, z, TI, TO, i1, i2], FpOk X pins (upd H s.heap.objs.size (.tup [x, y])) d := fun d hd => by
      obtain ⟨f0, f1⟩ := hf d hd
      exact ⟨by rw [upd_ne (Nat.ne_of_lt (lt d hd))]; exact f0, f1⟩
    have newP : ObjOk X.prog X.w (upd (upd H s.heap.objs.size (.tup [x, y])) (s.heap.objs.size + 1) (.tup [.int (c + (i : Nat)), .ref s.heap.objs.size])) h'' (s.heap.objs.size + 1) (.tup [.int (c + (i : Nat)), .ref s.heap.objs.size]) :=
      ⟨by show 2 ≤ sizeLine; decide, [.int (c + (i : Nat)) tk, .ref s.heap.objs.size], .cons ⟨_, rfl⟩ (.cons rfl .nil), ⟨_, hP2, rfl, _, rfl⟩⟩
    have I2 := I1.turnedNew (t' := tk + 1) (h' := h'') (T := s.heap.objs.size + 1) (ch := [e, z, TI, TO, i1, i2]) (fun d o hd q => by
      by_cases hdT : d = s.heap.objs.size
      · rw [hdT] at q ⊢
        rw [gT] at q
        cases q
        exact hT2
      · have q' : s.heap.get? d = some o := by
          rw [← q]
          exact (Heap.get?_push_ne _ _ _ hdT).symm
        exact (sb.2 d (fun z => hd (by simp [z]))).trans (hk d o (fun z => hd (by simp [z])) (fun z => hd (by simp [z])) (fun z => hd (by simp [z])) (fun z => hd (by simp [z])) (fun z => hd (by simp [z])) q')) hf1 (by show (s.heap.push _).objs.size ≤ _; rw [Heap.size_push]; exact Nat.le_refl _) newP
    refine ⟨.ref (s.heap.objs.size + 1), _, I2, rfl, ⟨_, _, x, y, rfl, I.hok.fresh (Nat.le_refl _), I.hok.fresh (Nat.le_succ _), Nat.succ_ne_self _, rfl, fun l hl => by rw [I.list_inj hl hqx]; exact hx, fun l hl => by rw [I.list_inj hl hqy]; exact hy⟩, ⟨⟨.ref s.heap.objs.size, ?_⟩, ?_⟩, fun d hd => ?_⟩
    · have e1 : c + ((i + 1 : Nat) : Int) = c + (i : Int) + 1 := by omega
      rw [e1]
      exact he'
    · exact z'.at fun b hb o q => (sb.2 b (fun z => hne (z ▸ hb))).trans q
    · rw [upd_ne (Nat.ne_of_lt (Nat.lt_succ_of_lt (lt d hd))), upd_ne (Nat.ne_of_lt (lt d hd))]
      exact (hf d hd).1
  done := by
    intro X hP hw hK hc i pins s σ H E I hf st hg
    subst hP hw hK
    obtain ⟨⟨old, he⟩, hz⟩ := st
    obtain ⟨xs, ys, hqx, hqy, hend⟩ := hg
    obtain ⟨its, rv, p, _⟩ := I.list hqx
    obtain ⟨its2, rv2, p2, _⟩ := I.list hqy
    have l1 := rv.length
    have l2 := rv2.length
    have he' : its.toArray[i]? = none ∨ its2.toArray[i]? = none := by
      rcases hend with q | q
      · exact .inl (by simp; omega)
      · exact .inr (by simp; omega)
    exact pyNext_enumZ_end (I.ok.hd hc) D he hz p.isList p2.isList he' fun h' hk => ⟨rfl, I.turnedL (t' := s.toks) (ch := [e, z, TI, TO, i1, i2]) (fun d o hb q =>
      hk d o (fun q' => hb (by simp [q'])) (fun q' => hb (by simp [q'])) (fun q' => hb (by simp [q'])) (fun q' => hb (by simp [q'])) q) hf⟩
  self := fun A i s Q E st h => by
    obtain ⟨⟨_, he⟩, _⟩ := st
    exact wpAny_pyIter_enum he h

def iEnumZ (K : PySem.W.Frag) (ta : TA) (c : Int) : TI := fun σ H R => ta σ H fun vs H1 => ∃ a b xs ys, vs = [.ref a, .ref b] ∧ SqL K H1 a xs ∧ SqL K H1 b ys ∧ R (Itez K a b c) H1
theorem pi_enumZ {X : Cx} {e e2 : Expr} {ta : TA} {p pz qz pos tpos kpos cpos : Pos} {elts : List Expr} {kk j : Nat} {c : Int} (hg : Gl X "enumerate") (hm : X.mg "enumerate" = none) (hgz : Gl X "zip") (hmz : X.mg "zip" = none) (ha : PA X [e, e2] ta)
    (hs : starEach [Expr.Call (.Name "zip" pz) [e, e2] [] qz] X.env = (false, eval (.Call (.Name "zip" pz) [e, e2] [] qz) X.env) :: starEach [] X.env := by rfl) (hs2 : starEach [e, e2] X.env = (false, eval e X.env) :: starEach [e2] X.env := by rfl) (h0 : -(2 ^ 63) ≤ c := by decide) (h1 : c < 2 ^ 63 := by decide)
    (hall : (backToKw pos (keywordEach [⟨some "start", .Constant (.int c) j cpos, kpos⟩] X.env)).all (·.1.isSome) = true := by rfl)
    (hks : (backToKw pos (keywordEach [⟨some "start", .Constant (.int c) j cpos, kpos⟩] X.env)).filterMap (·.1) = [Str.ofString "start"] := by rfl)
    (hnone : (backToKw pos (keywordEach [⟨some "start", .Constant (.int c) j cpos, kpos⟩] X.env)).any (·.1.isNone) = false := by rfl)
    (hpl : (backTo pos (starEach [Expr.Call (.Name "zip" pz) [e, e2] [] qz] X.env)).any (·.1) = false := by rfl) (hpl2 : (backTo qz (starEach [e2] X.env)).any (·.1) = false := by rfl) :
    L2.PI X (.Tuple elts kk tpos) (.Call (.Name "enumerate" p) [.Call (.Name "zip" pz) [e, e2] [] qz] [⟨some "start", .Constant (.int c) j cpos, kpos⟩] pos) (iEnumZ X.K ta c) := by
  refine ⟨fun pins s σ H R I h => ?_⟩
  refine wpAny_Call_Name_kw (ld_blt I hg hm boot_enumerate ?_)
  refine callWith_clsKw ?_ hall hpl hnone (by rw [hs]; rfl)
  refine PyProof.Rows.args_cons ?_ hs
  refine Call_ (ld_blt I hgz hmz PyProof.Rows.boot_zip (PyProof.Rows.callWith_type1 (thn (ha.run qz pins s σ H _ I h) fun us s1 ⟨vs, H1, I1, r1, q1⟩ => ?_) hs2 hpl2))
  obtain ⟨a, b, xs, ys, ex, hqx, hqy, q⟩ := q1
  subst ex
  cases r1 with
  | cons r rr =>
    cases rr with
    | cons r' rr =>
      cases rr
      cases r
      cases r'
      obtain ⟨its, rv, p1, _⟩ := I1.list hqx
      obtain ⟨its2, rv2, p2, _⟩ := I1.list hqy
      refine call_zip_2 p1.isList p2.isList fun h' hz hTI hTO hi1 hi2 hsz hk => PyProof.Rows.args_nil ?_
      show wpAny _ _ (evalAll [(do let v ← eval (.Constant (.int c) j cpos) X.env; standAt pos; pure v)]) _ _ _
      refine PyProof.Rows.evalAll_cons (wpAny_bind (wpAny_Constant_int (wpAny_bind (wpAny_standAt (wpAny_pure (PyProof.Rows.evalAll_nil ?_))))))
      rw [hks]
      refine enumZ_begins (s := ⟨h', s1.gens, s1.drawn, s1.toks + 1, s1.os⟩) hz h0 h1 fun h'' he hsz2 hk2 => wpAny_pyIter_enum he ?_
      have hsz' : h'.objs.size = s1.heap.objs.size + 5 := hsz
      have I3 : Inv X pins σ H1 { s1 with heap := h'', toks := s1.toks + 1 } := I1.kept (t' := s1.toks + 1) fun d o e => hk2 d o (hk d o e)
      have D := PySem.W.ktu_apart s1.heap.objs.size a b p1.lt p2.lt
      refine ⟨h'.objs.size, [h'.objs.size, s1.heap.objs.size + 4, s1.heap.objs.size + 2, s1.heap.objs.size + 3, s1.heap.objs.size, s1.heap.objs.size + 1], _, _, H1, rfl, I3, turn_enumZ c D ?_, ⟨⟨.none, ?_⟩, ?_⟩, fun d hd => ?_, q⟩
      · rw [hsz']
        simp
      · rw [show c + ((0 : Nat) : Int) = c by omega]
        exact he
      · exact ⟨⟨.none, false, hk2 _ _ hz, .inl rfl⟩, hk2 _ _ hTI, ⟨_, _, hk2 _ _ hTO⟩, hi1.at fun o q => hk2 _ o q, hi2.at fun o q => hk2 _ o q⟩
      · have hle : s1.heap.objs.size ≤ d := by
          have hd' : d = h'.objs.size ∨ d = s1.heap.objs.size + 4 ∨ d = s1.heap.objs.size + 2 ∨ d = s1.heap.objs.size + 3 ∨ d = s1.heap.objs.size ∨ d = s1.heap.objs.size + 1 := by simpa using hd
          rw [hsz'] at hd'
          rcases hd' with z | z | z | z | z | z
          · rw [z]; exact Nat.le_add_right _ _
          · rw [z]; exact Nat.le_add_right _ _
          · rw [z]; exact Nat.le_add_right _ _
          · rw [z]; exact Nat.le_add_right _ _
          · rw [z]; exact Nat.le_refl _
          · rw [z]; exact Nat.le_add_right _ _
        exact I1.fpOk hle (I1.hok.fresh hle)
section
open Evl
variable {K : PySem.W.Frag} {σ : L2.St} {H : Hp} {ta : TE} {tb : TE} {D : Ends} {tu tz : TS}
/-- for n, (x, y) in enumerate(zip(a, b), start=c) -/
theorem s_forEnZ {a b : Addr} {xs ys : List V} {j l m : Nat} {c : Int} (ha : Ev ta σ H (.ref a)) (hb : ∀ H1, Ex H H1 → Ev tb σ H1 (.ref b)) (hx : SqL K H a xs) (hy : SqL K H b ys) (hl : xs.length = ys.length) (Pv : Nat → L2.St → Hp → Prop) (h0 : ∀ H1, Ex H H1 → Pv 0 σ H1)
    (hq : ∀ i σ' H', Pv i σ' H' → SqL K H' a xs ∧ SqL K H' b ys)
    (hs : ∀ (i : Nat) (x y : V) σ' H', xs[i]? = some x → ys[i]? = some y → Pv i σ' H' → ∀ H1, Ex H' H1 → tu { D with nx := Pv (i + 1), ct := Pv (i + 1), bk := D.nx } (((σ'.set j (some (.int (c + (i : Int))))).set l (some x)).set m (some y)) H1)
    (hd : ∀ σ' H', Pv xs.length σ' H' → D.nx σ' H') :
    tFor (iEnumZ K (tCons ta (tCons tb tNil)) c) (gTup K 2 (gCons (gName j) (gCons (gTup K 2 (gCons (gName l) (gCons (gName m) gNil))) gNil))) tu D σ H := by
  refine ha H (Ex.refl H) _ fun H1 e1 => hb H1 e1 H1 (Ex.refl H1) _ fun H2 e2 => ⟨a, b, xs, ys, rfl, ex_l (e1.trans e2) hx, ex_l (e1.trans e2) hy, ?_⟩
  refine ⟨fun i m σ H => m = xs.length - i ∧ i ≤ xs.length ∧ Pv i σ H, ⟨xs.length, rfl, Nat.zero_le _, h0 H2 (e1.trans e2)⟩, ?_⟩
  rintro i mm σ H ⟨rfl, hi, p⟩
  obtain ⟨qx, qy⟩ := hq i σ H p
  by_cases hlt : i < xs.length
  · have ex : xs[i]? = some xs[i] := List.getElem?_eq_getElem hlt
    have hlt2 : i < ys.length := by omega
    have ey : ys[i]? = some ys[i] := List.getElem?_eq_getElem hlt2
    refine .inr ⟨⟨xs, ys, _, _, qx, qy, ex, ey⟩, Pv (i + 1), fun σ' H' p' => ⟨xs.length - (i + 1), by omega, rfl, hlt, p'⟩, fun v H' yl => ?_⟩
    obtain ⟨T, P, x', y', rfl, hT, hP, ne, rfl, f1, f2⟩ := yl
    have hP' : (upd H T (.tup [x', y'])) P = none := by rw [upd_ne ne]; exact hP
    exact ⟨P, _, rfl, st_of upd_same, rfl, _, _, rfl, _, _, rfl, T, _, rfl, st_of (by rw [upd_ne (Ne.symm ne), upd_same]), rfl, _, _, rfl, _, _, rfl, rfl, rfl, hs i x' y' σ H (f1 xs qx) (f2 ys qy) p _ ((Ex.new hT).trans (Ex.new hP'))⟩
  · have e : i = xs.length := by omega
    subst e
    exact .inl ⟨⟨xs, ys, qx, qy, Or.inl (Nat.le_refl _)⟩, hd σ H p⟩
theorem q_forEnZ {a b : Addr} {xs ys : List V} {j l m : Nat} {c : Int} (ha : Ev ta σ H (.ref a)) (hb : ∀ H1, Ex H H1 → Ev tb σ H1 (.ref b)) (hx : SqL K H a xs) (hy : SqL K H b ys) (hl : xs.length = ys.length) (Pv : Nat → L2.St → Hp → Prop) (h0 : ∀ H1, Ex H H1 → Pv 0 σ H1)
    (hq : ∀ i σ' H', Pv i σ' H' → SqL K H' a xs ∧ SqL K H' b ys)
    (hs : ∀ (i : Nat) (x y : V) σ' H', xs[i]? = some x → ys[i]? = some y → Pv i σ' H' → ∀ H1, Ex H' H1 → tu { D with nx := Pv (i + 1), ct := Pv (i + 1), bk := tz D } (((σ'.set j (some (.int (c + (i : Int))))).set l (some x)).set m (some y)) H1)
    (hd : ∀ σ' H', Pv xs.length σ' H' → tz D σ' H') :
    tSeq (tFor (iEnumZ K (tCons ta (tCons tb tNil)) c) (gTup K 2 (gCons (gName j) (gCons (gTup K 2 (gCons (gName l) (gCons (gName m) gNil))) gNil))) tu) tz D σ H := s_forEnZ (D := { D with nx := tz D }) ha hb hx hy hl Pv h0 hq hs hd
/-- [e for x, y in zip(xs, ys) if ..] of pure parts -/
theorem el_lcZF {a b : Addr} {xs ys : List V} {tl tr : TE} {i j : Nat} {vs : List Nat} {t : TT} {te : TE} (f : Nat → Bool) (v : Nat → V) (h : Ev tl σ H (.ref a)) (h' : Ev tr σ H (.ref b)) (hx : SqL K H a xs) (hy : SqL K H b ys) (hz : xs.length ≤ 40000)
    (hw : ∀ x y, wipe (((wipe σ vs).set i (some x)).set j (some y)) vs = wipe σ vs)
    (ht : ∀ (n : Nat) x y H1, Ex H H1 → xs[n]? = some x → ys[n]? = some y → EvT t (((wipe σ vs).set i (some x)).set j (some y)) H1 (f n))
    (he : ∀ (n : Nat) x y H1, Ex H H1 → xs[n]? = some x → ys[n]? = some y → f n = true → Ev te (((wipe σ vs).set i (some x)).set j (some y)) H1 (v n)) :
    EvL (tLc (iZip K (tCons tl (tCons tr tNil))) (g2 K i j) t te vs) σ H (given (min xs.length ys.length) f v) := fun H0 e Q q => h H0 e _ fun H1 e1 => h' H1 (e.trans e1) _ fun H2 e2 => by
  have ee := (e.trans e1).trans e2
  refine ⟨a, b, xs, ys, rfl, ex_l ee hx, ex_l ee hy, fun Dl hD => ?_⟩
  refine ⟨fun n m H => m = min xs.length ys.length - n ∧ n ≤ min xs.length ys.length ∧ Cw H2 f v Dl n H, ⟨min xs.length ys.length, by simp, Nat.zero_le _, hD, Ex.new hD, upd_same⟩, ?_⟩
  rintro n m H ⟨rfl, hi, p⟩
  have qx := ex_l (ee.trans p.2.1) hx
  have qy := ex_l (ee.trans p.2.1) hy
  by_cases hlt : n < min xs.length ys.length
  · have h1 : n < xs.length := by omega
    have h2 : n < ys.length := by omega
    refine .inr ⟨⟨xs, ys, xs[n], ys[n], qx, qy, by simp [h1], by simp [h2]⟩, Cw H2 f v Dl (n + 1), fun H' p' => ⟨min xs.length ys.length - (n + 1), by omega, rfl, hlt, p'⟩, ?_⟩
    rintro w H' ⟨T, x, y, rfl, nT, rfl, gx, gy⟩
    have e3 := Ex.new (o := .tup [x, y]) nT
    refine g2_go upd_same ⟨hw _ _, cw_turn ⟨p.1, p.2.1.trans e3, e3 _ _ p.2.2⟩ (by omega) (ht n x y H2 ee (gx xs qx) (gy ys qy)) fun hf => he n x y H2 ee (gx xs qx) (gy ys qy) hf⟩
  · have e' : n = min xs.length ys.length := by omega
    subst e'
    exact .inl ⟨⟨xs, ys, qx, qy, by omega⟩, q Dl H (fresh_back (e1.trans e2) p.1) ((e1.trans e2).trans p.2.1) p.2.2⟩
end
end Bk
namespace Bk
open PySem PySem.Spec PyProof.Rows L2 Evl
/-! ### numbers of many digits as texts: the limit of digits is not set -/
def NoDig (h : Heap) : Prop := ∃ mc, h.Ns cStatics mc ∧ mc "sys.int_max_str_digits" = none
theorem NoDig.keeps {h h' : Heap} (x : NoDig h) (k : ∀ b o, h.get? b = some o → h'.get? b = some o) : NoDig h' := by
  obtain ⟨mc, ⟨o, es, ep, e, d, r⟩, n⟩ := x
  exact ⟨mc, ⟨o, es, ep, k _ _ e, d, r⟩, n⟩
theorem noDig_of {K : PySem.W.Frag} {h : Heap} (X : K.In h) (L : h.NoLimit) (e : PySem.W.nsIn K cStatics "sys.int_max_str_digits" = some none) : NoDig h := by
  obtain ⟨mc, G, _⟩ := L
  refine ⟨mc, G, ?_⟩
  obtain ⟨o, es, ep, ho, hd, _, hf⟩ := G
  unfold PySem.W.nsIn at e
  split at e
  · rename_i q
    have z := X _ _ q
    rw [ho] at z
    cases z; cases hd
    split at e
    · cases e
    · rename_i hn
      rw [← hf]; unfold nsFind findBy; rw [← Array.find?_toList, hn]; rfl
  · cases e
theorem over_big {M : Model} {A : Around} {E : Value → Shared → Prop} {s : Shared} {a : Int} {Q : Option Nat → Shared → Prop} (h : a.natAbs.log2 < 12000) (nd : NoDig s.heap) (q : Q none s) : wpAny M A (Builtin.overDigitLimit? a) Q E s := by
  unfold Builtin.overDigitLimit?
  by_cases c : a.natAbs.log2 < 1920
  · rw [if_pos c]; exact wpAny_pure q
  rw [if_neg c]
  obtain ⟨mc, G, e⟩ := nd
  refine wpAny_bind ?_
  unfold Builtin.intMaxStrDigits
  refine wpAny_bind (wpAny_nsGet G ?_)
  rw [e]
  refine wpAny_pure ?_
  have c1 : ¬ a.natAbs.log2 / 30 + 1 > 1000 := by omega
  show wpAny M A (if a.natAbs.log2 / 30 + 1 > 1000 then _ else if (4300 == 0 || decide (a.natAbs.log2 < 3 * 4300)) = true then pure none else _) Q E s
  rw [if_neg c1, if_pos (by rw [decide_eq_true (by omega)]; rfl)]
  exact wpAny_pure q
theorem repr_big {a : Int} (t : Tok) (h : a.natAbs.log2 < 12000) : GivesAt (fun s => NoDig s.heap) (Builtin.«int.__repr__» ⟨[.int a t], []⟩) (.str (toString a)) := by
  intro prog w A R s nd p
  unfold Builtin.«int.__repr__»
  refine wpAny_bind (wpAny_pure ?_)
  show wpAny _ _ (do let r ← Builtin.overDigitLimit? a; _) _ _ s
  refine wpAny_bind (over_big h nd ?_)
  exact wpAny_bind (wpAny_mkStr (wpAny_pure p.2) p.1)
theorem big_fits {a : Int} (h : a.natAbs.log2 < 12000) : (Str.ofString (toString a)).length ≤ sizeLine := by
  have e := int_text_length_le (k := 12000) (by decide) h
  rw [PySem.ofString_length, sizeLine_eq]; omega
theorem reprK_big {prog : Program} {w : World} {h₀ : Heap} {a : Int} (t : Tok) (nd : NoDig h₀) (h : a.natAbs.log2 < 12000) : ReprK prog w [] h₀ 0 (.int a t) (toString a) := fun base hb A g E s Q hg hcl hu hk hQ => by
  rw [pyReprUnder_leaf (v := .int a t) (by omega) (fun _ e => nomatch e)]
  unfold pyRepr
  exact wpAny_bind (wpAny_pyReprObj_slot (by omega) (typeIs_int s a t) F.slot_int_repr.toG (call_givesAt F.slot_int_repr (typeIs_int s a t) F.entry_int_repr (F.args_int_repr_1 _) (repr_big t h) (nd.keeps hk) ⟨big_fits h, _, _, rfl, wpAny_pure (hQ s.heap _ fun _ _ e => e)⟩))
theorem all_big {prog : Program} {w : World} {h₀ : Heap} (nd : NoDig h₀) : ∀ (ns : List Int) (vs : List Value) (as : List Addr), (∀ n ∈ ns, n.natAbs.log2 < 12000) → ReadsAll h₀ vs (di ns) as → ReprAllK prog w [] h₀ 0 vs (PyData.shownAll (di ns))
  | [], vs, as, hn, r => by
    cases r
    exact .nil
  | n :: ns, vs, as, hn, r => by
    cases r with
    | cons r rs =>
      show ReprAllK prog w [] h₀ 0 _ (PyData.shownAll (.int n :: di ns))
      rw [PyData.shownAll]
      refine .cons ?_ (all_big nd ns _ _ (fun m hm => hn m (List.mem_cons_of_mem _ hm)) rs)
      cases r with
      | int i t => rw [PyData.shown]; exact reprK_big t nd (hn n List.mem_cons_self)
def rReprB (K : PySem.W.Frag) : List V → Hp → VK → Prop := fun xs H Q => ∃ (a : Addr) (ns : List Int), xs = [.ref a] ∧ SqL K H a (vi ns) ∧ (∀ n ∈ ns, n.natAbs.log2 < 12000) ∧ ns.length ≤ 1000 ∧ Q (.str (PyData.list (di ns)).shown) H
theorem shown_big {ns : List Int} (h : ∀ n ∈ ns, n.natAbs.log2 < 12000) : ∀ t ∈ PyData.shownAll (di ns), t.length ≤ 12001 := fun t ht => shown_le (k := 12000) (by decide) h t ht
theorem call_reprB {X : Cx} {K : PySem.W.Frag} (hK : X.K = K) (bd : PySem.W.nsIn K cStatics "sys.int_max_str_digits" = some none) (hg : X.A.guards = some []) (hu : X.A.units + 64 < cLine) : CallR X (.builtin "repr") (rReprB K) := by
  subst hK
  intro pins s σ H xs us Q I r h
  obtain ⟨a, ns, rfl, hS, hw, hl, q⟩ := h
  obtain ⟨u, rfl, ru⟩ := vals1 r
  cases (show u = Value.ref a from ru)
  have nd : NoDig s.heap := noDig_of I.kIn I.nolimit bd
  obtain ⟨as, rd⟩ := Dp.reads I (.list (di ns)) (.ref a) (.ref a) (dp_lst hS) rfl
  have hz : (listText (PyData.shownAll (di ns))).length ≤ sizeLine := by
    have h1 := listText_le (shown_big hw)
    have h2 : (PyData.shownAll (di ns)).length = ns.length := by rw [shownAll_ints, List.length_map]
    rw [h2] at h1
    have : (12001 + 2) * ns.length ≤ 12003 * 1000 := Nat.mul_le_mul (Nat.le_refl _) hl
    have e : sizeLine = 16777216 := by decide
    omega
  cases rd with
  | list h1 h2 h3 h4 =>
    rename_i o vs n bs
    have hk := all_big (prog := X.prog) (w := X.w) nd ns _ _ hw h4
    refine call_repr_slot (by omega) (T := "list") (idr := "list.__repr__") ⟨o, h1, h2⟩ F.slot_list_repr.toG ?_
    obtain ⟨l⟩ := vs
    cases l with
    | nil =>
      have h4' : ReadsAll s.heap [] (di ns) _ := h4
      have e : ns = [] := by cases ns with | nil => rfl | cons _ _ => cases h4'
      subst e
      exact call_list_repr_empty ⟨o, h1, h2⟩ h1 h3 ⟨_, _, rfl, .str _, H, I.kept fun _ _ e => e, ⟨_, rfl⟩, q⟩
    | cons x l =>
      exact call_list_reprK h1 h2 h3 (List.not_mem_nil) (by simpa using hk.length_eq) (fun i y e => hk.item i y (by simpa using e)) hg (fun b _ => Clear.nil b) (by show X.A.units + 1 + (0 + 1) < cLine; omega) (fun _ _ e => e) (fun h' u tk k => ⟨_, _, rfl, .str _, H, I.kept k, ⟨_, rfl⟩, by rw [PyData.shown] at q; exact q⟩) hz
/-- of any data, or of a list of great numbers -/
def rReprC (K : PySem.W.Frag) : List V → Hp → VK → Prop := fun xs H Q => rReprX K xs H Q ∨ rReprB K xs H Q
theorem call_reprC {X : Cx} {K : PySem.W.Frag} (hK : X.K = K) (bd : PySem.W.nsIn K cStatics "sys.int_max_str_digits" = some none) (hg : X.A.guards = some []) (hu : X.A.units + 64 < cLine) : CallR X (.builtin "repr") (rReprC K) := by
  intro pins s σ H xs us Q I r h
  rcases h with h | h
  · exact call_reprX hK hg hu pins s σ H xs us Q I r h
  · exact call_reprB hK bd hg hu pins s σ H xs us Q I r h
section
variable {K : PySem.W.Frag} {σ : L2.St} {H : Hp} {te : TE}
theorem ev_reprCX {d : PyData} (h : EvD K te σ H d) (hs : Sho d) (no : ∀ y, d ≠ .str y) : Ev (tCB (rReprC K) (tCons te tNil)) σ H (.str d.shown) := fun H1 e Q q =>
  h H1 e _ fun v H2 e2 hd => .inl ⟨v, d, rfl, hd, hs, no, q H2 e2⟩
theorem ev_reprCB {p : Addr} {ns : List Int} (h : Ev te σ H (.ref p)) (g : SqL K H p (vi ns)) (hw : ∀ n ∈ ns, n.natAbs.log2 < 12000) (hl : ns.length ≤ 1000) : Ev (tCB (rReprC K) (tCons te tNil)) σ H (.str (PyData.list (di ns)).shown) := fun H1 e Q q =>
  h H1 e _ fun H2 e2 => .inr ⟨p, ns, rfl, ex_l (e.trans e2) g, hw, hl, q H2 e2⟩
theorem ev_reprCN {ns : List Int} (h : EvL te σ H (vi ns)) (hw : ∀ n ∈ ns, n.natAbs.log2 < 12000) (hl : ns.length ≤ 1000) : Ev (tCB (rReprC K) (tCons te tNil)) σ H (.str (PyData.list (di ns)).shown) := fun H1 e Q q =>
  h H1 e _ fun p H2 hp e2 g => .inr ⟨p, ns, rfl, sq_of g, hw, hl, q H2 e2⟩
theorem ev_reprB {p : Addr} {ns : List Int} (h : Ev te σ H (.ref p)) (g : SqL K H p (vi ns)) (hw : ∀ n ∈ ns, n.natAbs.log2 < 12000) (hl : ns.length ≤ 1000) : Ev (tCB (rReprB K) (tCons te tNil)) σ H (.str (PyData.list (di ns)).shown) := fun H1 e Q q =>
  h H1 e _ fun H2 e2 => ⟨p, ns, rfl, ex_l (e.trans e2) g, hw, hl, q H2 e2⟩
theorem ev_reprNB {ns : List Int} (h : EvL te σ H (vi ns)) (hw : ∀ n ∈ ns, n.natAbs.log2 < 12000) (hl : ns.length ≤ 1000) : Ev (tCB (rReprB K) (tCons te tNil)) σ H (.str (PyData.list (di ns)).shown) := fun H1 e Q q =>
  h H1 e _ fun p H2 hp e2 g => ⟨p, ns, rfl, sq_of g, hw, hl, q H2 e2⟩
end
end Bk
namespace Bk
open PySem PySem.Spec PyProof.Rows L2 Evl
/-! ### math.lcm of greater numbers -/
def rLcmW : List V → Hp → VK → Prop := fun vs H Q => ∃ a b : Int, vs = [.int a, .int b] ∧ a.natAbs < 2 ^ 6000 ∧ b.natAbs < 2 ^ 6000 ∧ Q (.int ((Nat.lcm a.natAbs b.natAbs : Nat) : Int)) H
theorem log_w {n : Nat} (h : n < 2 ^ 6000) : (max 1 n).log2 < 6000 := PySem.Flt.log2_lt_of (by decide) (by
  rcases Nat.le_total 1 n with z | z
  · rw [Nat.max_eq_right z]; exact h
  · rw [Nat.max_eq_left z]; exact Nat.one_lt_two_pow (by decide))
theorem cr_lcmW {X : Cx} : CallR X (.builtin "math.lcm") rLcmW := by
  intro pins s σ H vs us Q I r h
  obtain ⟨a, b, rfl, ha, hb, q⟩ := h
  obtain ⟨t, u, rfl⟩ := Vals.int2 r
  have e : ((Nat.lcm 1 a.natAbs).lcm b.natAbs) = Nat.lcm a.natAbs b.natAbs := by rw [Nat.lcm_one_left]
  have h1 : Nat.lcm a.natAbs b.natAbs ≤ a.natAbs * b.natAbs := by
    by_cases h0 : a.natAbs * b.natAbs = 0
    · rcases Nat.mul_eq_zero.mp h0 with z | z
      · rw [z, Nat.lcm_zero_left]; exact Nat.zero_le _
      · rw [z, Nat.lcm_zero_right]; exact Nat.zero_le _
    · exact Nat.le_of_dvd (Nat.pos_of_ne_zero h0) (Nat.lcm_dvd_mul _ _)
  have h2 : a.natAbs * b.natAbs < 2 ^ 12000 := by
    rw [show 12000 = 6000 + 6000 from rfl, Nat.pow_add]
    exact Nat.mul_lt_mul'' ha hb
  have l1 := log_w ha
  have l2 : (max a.natAbs b.natAbs).log2 < 6000 := PySem.Flt.log2_lt_of (by decide) (by
    rcases Nat.le_total a.natAbs b.natAbs with z | z
    · rw [Nat.max_eq_right z]; exact hb
    · rw [Nat.max_eq_left z]; exact ha)
  have hsz : ((((Nat.lcm 1 a.natAbs).lcm b.natAbs : Nat) : Int)).natAbs.log2 < bitsLine := by
    rw [e, Int.natAbs_natCast]
    exact Nat.lt_of_lt_of_le (PySem.Flt.log2_lt_of (k := 12000) (by decide) (Nat.lt_of_le_of_lt h1 h2)) (by decide)
  refine call_function_meets PySem.W.MGF.kind_lcm PySem.W.MGF.plain_lcm PySem.W.MGF.entry_lcm (PySem.W.MGF.args_lcm _ _) (PySem.W.mg_run_lcm a t b u (by omega) (by omega) hsz).meets ?_
  rw [e]
  exact ⟨.int _, H, I.tok _, ⟨_, rfl⟩, q⟩
/-! ### list(range(a, b, c)) -/
variable {X : Cx}
def rgS (a b c : Int) : List V := (List.range (Builtin.Range.rangeSize a b c).toNat).map fun i => V.int (a + (i : Nat) * c)
def tRg3 (ta tb tc : TE) : L2.St → Hp → (Int → Int → Int → Hp → Prop) → Prop := fun σ H Q => ta σ H fun x H1 => tb σ H1 fun y H2 => tc σ H2 fun z H3 => ∃ i j k, x = .int i ∧ y = .int j ∧ z = .int k ∧ Q i j k H3
def RgS (a b c : Int) : Prop := 0 < c ∧ -(2 ^ 62) ≤ a ∧ a < 2 ^ 62 ∧ -(2 ^ 62) ≤ b ∧ b < 2 ^ 62 ∧ c < 2 ^ 60 ∧ b - a ≤ 2 ^ 24
theorem small_s {a b c : Int} (h : RgS a b c) : Builtin.Range.small a b c = true ∧ ∃ n : Nat, Builtin.Range.rangeSize a b c = n ∧ n ≤ 2 ^ 24 := by
  obtain ⟨h0, h1, h2, h3, h4, h5, h6⟩ := h
  have hd : 0 ≤ b - a - 1 → 0 ≤ (b - a - 1) / c ∧ (b - a - 1) / c ≤ b - a - 1 := fun z => ⟨Int.ediv_nonneg z (by omega), Int.ediv_le_self _ z⟩
  have hs : 0 ≤ Builtin.Range.rangeSize a b c ∧ Builtin.Range.rangeSize a b c ≤ 2 ^ 24 := by
    unfold Builtin.Range.rangeSize
    rw [if_pos h0]
    by_cases z : a < b
    · rw [if_pos z]
      have := hd (by omega)
      omega
    · rw [if_neg z]
      decide
  refine ⟨?_, (Builtin.Range.rangeSize a b c).toNat, by rw [Int.toNat_of_nonneg hs.1], by omega⟩
  have e62 : (2 : Int) ^ 62 = 4611686018427387904 := by decide
  have e60 : (2 : Int) ^ 60 = 1152921504606846976 := by decide
  have e24 : (2 : Int) ^ 24 = 16777216 := by decide
  rw [e62] at *
  rw [e60] at *
  rw [e24] at *
  unfold Builtin.Range.small
  simp only [Builtin.Range.rangeFitsLong, Bool.and_eq_true, Bool.or_eq_true, decide_eq_true_eq, beq_iff_eq, h0, if_true]
  refine ⟨⟨?_, ?_⟩, ?_⟩ <;> first | omega | skip
theorem args3 {a b c : Expr} {ta tb tc : TE} {p pos : Pos} (hg : Gl X "range") (hm : X.mg "range" = none) (ha : PE X a ta) (hb : PE X b tb) (hc : PE X c tc) (na : starEach [a, b, c] X.env = (false, eval a X.env) :: starEach [b, c] X.env := by rfl)
    (nb : starEach [b, c] X.env = (false, eval b X.env) :: starEach [c] X.env := by rfl) (nc : starEach [c] X.env = (false, eval c X.env) :: starEach [] X.env := by rfl) (hp : (backTo pos (starEach [b, c] X.env)).any (·.1) = false := by rfl)
    {pins : List (Addr × Obj)} {s : Shared} {σ : L2.St} {H : Hp} {Q : Int → Int → Int → Hp → Prop} (I : Inv X pins σ H s) (h : tRg3 ta tb tc σ H fun i j k H1 => RgS i j k ∧ Q i j k H1) :
    wpAny (model X.prog X.w) X.A (eval (.Call (.Name "range" p) [a, b, c] [] pos) X.env) (fun x s' => ∃ r i j k t u v H', x = .ref r ∧ IsRange s'.heap r i j k t u v ∧ Inv X pins σ H' s' ∧ RgS i j k ∧ Q i j k H') X.xe s := by
  refine Call_ (ld_blt I hg hm boot_range (PyProof.Rows.callWith_type1 (args_cons (thn (ha.run pins s σ H _ I h) fun x s1 ⟨vx, H1, I1, r1, q1⟩ => args_cons (thn (hb.run pins s1 σ H1 _ I1 q1) fun y s2 ⟨vy, H2, I2, r2, q2⟩ => one_arg hc I2 q2 (fun u s3 z H3 I3 r3 q => ?_) nc) nb) na) na hp))
  obtain ⟨i, j, k, rfl, rfl, rfl, ok, q⟩ := q
  obtain ⟨t, rfl⟩ := r1
  obtain ⟨t', rfl⟩ := r2
  obtain ⟨t'', rfl⟩ := r3
  have o := ok
  obtain ⟨k0, k1, k2, k3, k4, k5, k6⟩ := o
  have hk : k.natAbs < 2 ^ 64 := by
    have e60 : (2 : Int) ^ 60 = 1152921504606846976 := by decide
    have e64 : (2 : Nat) ^ 64 = 18446744073709551616 := by decide
    omega
  refine call_range_3 (by omega) ⟨_, i, j, k, _, _, _, H3, rfl, IsRange.new _ _ _ _ _ _ _, I3.kept fun b u e => Heap.get?_push_of_some _ e, ok, q⟩ (.inl (PyProof.noPylong_of_log2 (Nat.lt_of_lt_of_le (PySem.Flt.log2_lt_of (k := 64) (by decide) hk) (by decide))))
def tLstRg3 (te : L2.St → Hp → (Int → Int → Int → Hp → Prop) → Prop) : TE := fun σ H Q => te σ H fun a b c H1 => RgS a b c ∧ ∀ q, H1 q = none → Q (.ref q) (upd H1 q (.lst (rgS a b c)))
theorem vals_rgS {a b c : Int} {n : Nat} (hn : Builtin.Range.rangeSize a b c = n) {acc : Array Value} (h : ItemsOf (fun i v => ∃ t, v = .int (a + i * c) t) acc n) : Vals (rgS a b c) acc.toList := by
  have e : acc.toList.length = n := by rw [Array.length_toList]; exact h.1
  unfold rgS
  rw [hn, Int.toNat_natCast, ← e]
  refine vals_of_get acc.toList _ fun j u hj => ?_
  obtain ⟨t, rfl⟩ := h.2 j u (by rw [← hj, Array.getElem?_toList])
  exact ⟨t, rfl⟩
theorem pe_listRg3 {a b c : Expr} {ta tb tc : TE} {p p2 pos pos2 : Pos} (hca : X.calm = true) (hl : Gl X "list") (hml : X.mg "list" = none) (hg : Gl X "range") (hm : X.mg "range" = none) (ha : PE X a ta) (hb : PE X b tb) (hc : PE X c tc) (na : starEach [a, b, c] X.env = (false, eval a X.env) :: starEach [b, c] X.env := by rfl)
    (nb : starEach [b, c] X.env = (false, eval b X.env) :: starEach [c] X.env := by rfl) (nc : starEach [c] X.env = (false, eval c X.env) :: starEach [] X.env := by rfl) (hp : (backTo pos (starEach [b, c] X.env)).any (·.1) = false := by rfl)
    (ne : starEach [.Call (.Name "range" p) [a, b, c] [] pos] X.env = (false, eval (.Call (.Name "range" p) [a, b, c] [] pos) X.env) :: starEach [] X.env := by rfl) : PE X (.Call (.Name "list" p2) [.Call (.Name "range" p) [a, b, c] [] pos] [] pos2) (tLstRg3 (tRg3 ta tb tc)) := by
  refine ⟨fun pins s σ H Q I h => ?_⟩
  refine Call_ (ld_blt I hl hml boot_list (PyProof.Rows.callWith_type1 (args_cons (thn (args3 hg hm ha hb hc na nb nc hp (Q := fun i j k H1 => ∀ q, H1 q = none → Q (.ref q) (upd H1 q (.lst (rgS i j k)))) I h) fun x s1 ⟨r, i, j, k, t, u, v, H1, ex, hr, I1, ok, q⟩ => args_nil ?_) ne) ne))
  subst ex
  obtain ⟨sm, n, hn, hle⟩ := small_s ok
  refine call_list_range (n := n) (I1.ok.hd hca) hr sm hn hle fun h' tk acc c' hk e' hi => ?_
  refine ⟨.ref s1.heap.objs.size, upd H1 s1.heap.objs.size (.lst (rgS i j k)), I1.laid hk (Nat.le_refl _) (show ObjOk X.prog X.w _ _ _ (.lst (rgS i j k)) from ⟨?_, acc.toList, c', vals_rgS hn hi, ?_⟩), rfl, q _ (I1.hok.fresh (Nat.le_refl _))⟩
  · unfold rgS
    rw [List.length_map, List.length_range, hn, Int.toNat_natCast, sizeLine_eq]; omega
  · rw [Array.toArray_toList]; exact e'
section
variable {K : PySem.W.Frag} {σ : L2.St} {H : Hp} {ta tb tc : TE} {a b c : Int}
theorem ev_lcmW (ha : Ev ta σ H (.int a)) (hb : Ev tb σ H (.int b)) (h1 : a.natAbs < 2 ^ 6000) (h2 : b.natAbs < 2 ^ 6000) : Ev (tCB rLcmW (tCons ta (tCons tb tNil))) σ H (.int ((Nat.lcm a.natAbs b.natAbs : Nat) : Int)) := fun H1 e Q q =>
  ha H1 e _ fun H2 e2 => hb H2 (e.trans e2) _ fun H3 e3 => ⟨a, b, rfl, h1, h2, q H3 (e2.trans e3)⟩
theorem el_rg3 (ha : Ev ta σ H (.int a)) (hb : Ev tb σ H (.int b)) (hc : Ev tc σ H (.int c)) (h : RgS a b c) : EvL (tLstRg3 (tRg3 ta tb tc)) σ H (rgS a b c) := fun H1 e Q q =>
  ha H1 e _ fun H2 e2 => hb H2 (e.trans e2) _ fun H3 e3 => hc H3 ((e.trans e2).trans e3) _ fun H4 e4 => ⟨a, b, c, rfl, rfl, rfl, h, fun p hp => q p _ (fresh_back ((e2.trans e3).trans e4) hp) (((e2.trans e3).trans e4).trans (Ex.new hp)) upd_same⟩
theorem ev_minN {ns : List Int} {m : Int} (h : EvL ta σ H (vi ns)) (hm : m ∈ ns) (hx : ∀ y ∈ ns, m ≤ y) : Ev (tCB (rMin K) (tCons ta tNil)) σ H (.int m) := fun H1 e Q q =>
  h H1 e _ fun p H2 hp e2 g => ⟨p, ns, rfl, sq_of g, List.length_pos_of_mem hm, fun k h1 h2 => by
    have := hx k h1
    have := h2 m hm
    have e0 : k = m := by omega
    rw [e0]
    exact q H2 e2⟩
theorem ev_minP {p : Addr} {ns : List Int} {m : Int} (h : Ev ta σ H (.ref p)) (g : SqL K H p (vi ns)) (hm : m ∈ ns) (hx : ∀ y ∈ ns, m ≤ y) : Ev (tCB (rMin K) (tCons ta tNil)) σ H (.int m) := fun H1 e Q q =>
  h H1 e _ fun H2 e2 => ⟨p, ns, rfl, ex_l (e.trans e2) g, List.length_pos_of_mem hm, fun k h1 h2 => by
    have := hx k h1
    have := h2 m hm
    have e0 : k = m := by omega
    rw [e0]
    exact q H2 e2⟩
end
end Bk
namespace My
open PySem PySem.Spec PyProof.Rows L2 Evl Bk

/-! ### rings in drawn places -/
theorem cut_mid {xs : List V} {a l : Nat} (h : a + l ≤ xs.length) : cutV xs (some (a : Int)) (some ((a : Int) + (l : Int))) = (xs.drop a).take l := by
  unfold cutV
  rw [show (a : Int) + (l : Int) = ((a + l : Nat) : Int) by omega, HT.sIx_nat, HT.sIx_nat, Nat.min_eq_left h, Nat.min_eq_left (show a ≤ xs.length by omega)]
  congr 1
  omega
theorem erase_perm {ps : List Int} {k : Nat} (h : k < ps.length) : (ps[k] :: ps.eraseIdx k).Perm ps := by
  induction ps generalizing k with
  | nil => exact absurd h (Nat.not_lt_zero _)
  | cons a r ih =>
    cases k with
    | zero => exact List.Perm.refl _
    | succ k =>
      have hk : k < r.length := by simpa using h
      have := ih (k := k) hk
      exact (List.Perm.swap a r[k] (r.eraseIdx k)).trans (List.Perm.cons a this)
def look (F : List Int) (q : Int) : Int := F.getD q.toNat 0
theorem look_set_same {F : List Int} {k : Nat} {x : Int} (h : k < F.length) : look (F.set k x) (k : Int) = x := by
  unfold look
  rw [Int.toNat_natCast, List.getD_eq_getElem?_getD, List.getElem?_set_self h]
  rfl
theorem look_set_ne {F : List Int} {k : Nat} {x q : Int} (h0 : 0 ≤ q) (h : q ≠ (k : Int)) : look (F.set k x) q = look F q := by
  unfold look
  rw [List.getD_eq_getElem?_getD, List.getD_eq_getElem?_getD, List.getElem?_set_ne (by omega)]
def RingInv (pl F : List Int) (at' : Nat) : Prop := F.length = pl.length ∧ ((pl.take at').map (look F)).Perm (pl.take at')
theorem rot_perm (l : List Int) (n : Nat) (h : 0 < n) (hl : l.length = n) : ((List.range n).map fun j => l.getD ((j + 1) % n) 0).Perm l := by
  cases l with
  | nil =>
    rw [List.length_nil] at hl
    omega
  | cons a r =>
    have e : ((List.range n).map fun j => (a :: r).getD ((j + 1) % n) 0) = r ++ [a] := by
      refine List.ext_getElem? fun i => ?_
      rw [List.length_cons] at hl
      rw [List.getElem?_map, List.getElem?_append]
      by_cases hi : i < r.length
      · rw [if_pos hi, List.getElem?_range (by omega)]
        show some ((a :: r).getD ((i + 1) % n) 0) = _
        rw [Nat.mod_eq_of_lt (by omega), List.getD_eq_getElem?_getD, List.getElem?_cons_succ, List.getElem?_eq_getElem hi]
        rfl
      · rw [if_neg hi]
        by_cases hj : i = r.length
        · rw [List.getElem?_range (by omega)]
          show some ((a :: r).getD ((i + 1) % n) 0) = _
          rw [show i + 1 = n by omega, Nat.mod_self, show i - r.length = 0 by omega]
          rfl
        · rw [List.getElem?_eq_none (by rw [List.length_range]; omega), List.getElem?_eq_none (by rw [List.length_singleton]; omega)]
          rfl
    rw [e]
    exact List.perm_append_comm (l₁ := r) (l₂ := [a])
theorem ring_step {pl F F' : List Int} {at' len : Nat} (h : RingInv pl F at') (hl : 0 < len) (ha : at' + len ≤ pl.length) (h1 : F'.length = pl.length)
    (h2 : ∀ q ∈ pl.take at', look F' q = look F q) (h3 : ∀ j, j < len → look F' (pl.getD (at' + j) 0) = pl.getD (at' + (j + 1) % len) 0) : RingInv pl F' (at' + len) := by
  refine ⟨h1, ?_⟩
  have e : pl.take (at' + len) = pl.take at' ++ (pl.drop at').take len := List.take_add
  rw [e, List.map_append]
  refine List.Perm.append ?_ ?_
  · rw [List.map_congr_left h2]
    exact h.2
  · have hlen : ((pl.drop at').take len).length = len := by
      rw [List.length_take, List.length_drop]
      omega
    refine List.Perm.trans (List.Perm.of_eq ?_) (rot_perm ((pl.drop at').take len) len hl hlen)
    refine List.ext_getElem? fun i => ?_
    rw [List.getElem?_map, List.getElem?_map]
    by_cases hi : i < len
    · have m : (i + 1) % len < len := Nat.mod_lt _ hl
      have g1 : ((pl.drop at').take len)[i]? = some (pl.getD (at' + i) 0) := by
        rw [List.getElem?_take_of_lt hi, List.getElem?_drop, List.getD_eq_getElem?_getD, List.getElem?_eq_getElem (show at' + i < pl.length by omega)]
        rfl
      have g2 : ((pl.drop at').take len).getD ((i + 1) % len) 0 = pl.getD (at' + (i + 1) % len) 0 := by
        rw [List.getD_eq_getElem?_getD, List.getElem?_take_of_lt m, List.getElem?_drop, List.getD_eq_getElem?_getD]
      rw [g1, List.getElem?_range hi]
      show some (look F' (pl.getD (at' + i) 0)) = some (((pl.drop at').take len).getD ((i + 1) % len) 0)
      rw [h3 i hi, g2]
    · rw [List.getElem?_eq_none (by omega), List.getElem?_eq_none (by rw [List.length_range]; omega)]
      rfl
theorem look_iota {F : List Int} {m : Nat} (h : F.length = m) : (iota m).map (look F) = F := by
  refine List.ext_getElem? fun i => ?_
  unfold iota
  rw [List.map_map, List.getElem?_map]
  by_cases hi : i < m
  · rw [List.getElem?_range hi, List.getElem?_eq_getElem (show i < F.length by omega)]
    show some (look F (i : Int)) = _
    unfold look
    rw [Int.toNat_natCast, List.getD_eq_getElem?_getD, List.getElem?_eq_getElem (show i < F.length by omega)]
    rfl
  · rw [List.getElem?_eq_none (by rw [List.length_range]; omega), List.getElem?_eq_none (by omega)]
    rfl
theorem ring_end {pl F : List Int} (hp : Shf pl) (h : RingInv pl F pl.length) : Shf F := by
  obtain ⟨h1, h2⟩ := h
  rw [List.take_of_length_le (Nat.le_refl _)] at h2
  refine ⟨by rw [h1]; exact hp.1, by rw [h1]; exact hp.2.1, ?_⟩
  have e := hp.2.2.map (look F)
  rw [look_iota h1] at e
  rw [h1]
  exact (e.symm.trans h2).trans hp.2.2
theorem Shf.get {ns : List Int} (h : Shf ns) {i : Nat} (hi : i < ns.length) : ∃ k : Nat, ns[i]? = some (k : Int) ∧ ns.getD i 0 = (k : Int) ∧ k < ns.length := by
  have m := h.mem (List.getElem_mem hi)
  refine ⟨ns[i].toNat, ?_, ?_, by omega⟩
  · rw [List.getElem?_eq_getElem hi, Int.toNat_of_nonneg m.1]
  · rw [List.getD_eq_getElem?_getD, List.getElem?_eq_getElem hi, Int.toNat_of_nonneg m.1]
    rfl
theorem Shf.inj {ns : List Int} (h : Shf ns) {i j : Nat} (hi : i < ns.length) (hj : j < ns.length) (e : ns.getD i 0 = ns.getD j 0) : i = j := by
  rw [List.getD_eq_getElem?_getD, List.getD_eq_getElem?_getD, List.getElem?_eq_getElem hi, List.getElem?_eq_getElem hj] at e
  exact (List.getElem_inj h.nodup).mp e

/-! ### great shuffles -/
def stepsL (size step : Nat) : List Int := (List.range size).map fun k : Nat => ((k * step % size : Nat) : Int)
theorem stepsL_length (size step : Nat) : (stepsL size step).length = size := by simp [stepsL]
theorem steps_shf {size step : Nat} (h0 : 0 < size) (h1 : size ≤ 300) (hc : Nat.Coprime size step) : Shf (stepsL size step) := by
  have hl := stepsL_length size step
  refine ⟨by omega, by omega, ?_⟩
  rw [hl]
  refine perm_iota ?_ ?_ hl
  · show List.Pairwise _ _
    refine List.pairwise_iff_getElem.mpr fun i j hi hj hij e => ?_
    unfold stepsL at e hi hj
    rw [List.length_map, List.length_range] at hi hj
    simp only [List.getElem_map, List.getElem_range] at e
    have e1 : j * step % size = i * step % size := by omega
    have e2 := Nat.dvd_of_mod_eq_zero (Nat.sub_mod_eq_zero_of_mod_eq e1)
    rw [← Nat.mul_sub_right_distrib] at e2
    have e3 := hc.dvd_of_dvd_mul_right e2
    have := Nat.eq_zero_of_dvd_of_lt e3 (by omega)
    omega
  · intro x hx
    obtain ⟨k, _, rfl⟩ := List.mem_map.mp hx
    have := Nat.mod_lt (k * step) h0
    omega
theorem cop293 : ∀ s : Nat, s < 293 → 0 < s → Nat.gcd 293 s = 1 := by decide +kernel
theorem cop_one (n : Nat) : Nat.Coprime n 1 := Nat.gcd_one_right n
theorem cop_pred {n : Nat} (h : 0 < n) : Nat.Coprime n (n - 1) := by
  have a := Nat.dvd_sub (Nat.gcd_dvd_left n (n - 1)) (Nat.gcd_dvd_right n (n - 1))
  rw [show n - (n - 1) = 1 by omega] at a
  exact Nat.dvd_one.mp a
theorem iota_look {m : Nat} {q : Int} (h0 : 0 ≤ q) (h1 : q < m) : look (iota m) q = q := by
  unfold look iota
  rw [List.getD_eq_getElem?_getD, List.getElem?_map, List.getElem?_range (by omega)]
  show ((q.toNat : Nat) : Int) = q
  omega
theorem ring_rest {pl F : List Int} {t : Nat} (hp : Shf pl) (h : RingInv pl F t) (hd : ∀ q ∈ pl.drop t, look F q = q) : Shf F := by
  refine ring_end hp ⟨h.1, ?_⟩
  rw [List.take_of_length_le (Nat.le_refl _)]
  have e : (pl.take t ++ pl.drop t).map (look F) = (pl.take t).map (look F) ++ pl.drop t := by
    rw [List.map_append]
    congr 1
    rw [List.map_congr_left hd, List.map_id']
  have p := List.Perm.append_right (pl.drop t) h.2
  rw [← e, List.take_append_drop] at p
  exact p

/-! ### side by side -/
def besL (xs ys : List Int) : List Int := xs ++ ys.map fun y => (xs.length : Int) + y
theorem besL_length (xs ys : List Int) : (besL xs ys).length = xs.length + ys.length := by simp [besL]
theorem bes_shf {xs ys : List Int} (hx : Shf xs) (hy : Shf ys) (h : xs.length + ys.length ≤ 300) : Shf (besL xs ys) := by
  have x0 := hx.1
  refine ⟨by rw [besL_length]; omega, by rw [besL_length]; exact h, ?_⟩
  rw [besL_length]
  have e : iota (xs.length + ys.length) = iota xs.length ++ (iota ys.length).map fun y => (xs.length : Int) + y := by
    unfold iota
    rw [List.range_add, List.map_append, List.map_map, List.map_map]
    rfl
  rw [e]
  exact hx.2.2.append (hy.2.2.map _)
theorem bes_assoc (xs ys zs : List Int) : besL (besL xs ys) zs = besL xs (besL ys zs) := by
  unfold besL
  rw [List.append_assoc, List.map_append, List.map_map]
  congr 2
  refine List.map_congr_left fun z _ => ?_
  show (((xs ++ ys.map fun y => (xs.length : Int) + y).length : Nat) : Int) + z = (xs.length : Int) + ((ys.length : Int) + z)
  rw [List.length_append, List.length_map]
  omega
theorem bes_at (xs ys : List Int) {i : Nat} (h : i < xs.length) : (besL xs ys)[i]? = some (xs.getD i 0) := by
  unfold besL
  rw [List.getElem?_append_left h, List.getD_eq_getElem?_getD, List.getElem?_eq_getElem h]
  rfl
theorem bes_at' (xs ys : List Int) {i : Nat} (h : i < ys.length) : (besL xs ys)[xs.length + i]? = some ((xs.length : Int) + ys.getD i 0) := by
  unfold besL
  rw [List.getElem?_append_right (Nat.le_add_right _ _), Nat.add_sub_cancel_left, List.getElem?_map, List.getD_eq_getElem?_getD, List.getElem?_eq_getElem h]
  rfl
theorem take_vi {xs : List Int} {i : Nat} {x : Int} (h : xs[i]? = some x) : vi (xs.take i) ++ [.int x] = vi (xs.take (i + 1)) := by
  rw [List.take_succ, h]
  unfold vi
  rw [List.map_append]
  rfl
theorem given_map (ys : List Int) (g : Int → Int) : given (vi ys).length (fun _ => true) (fun i => V.int (g (ys.getD i 0))) = vi (ys.map g) := by
  rw [List.length_map, given_all]
  unfold vi
  refine List.ext_getElem? fun i => ?_
  rw [List.getElem?_map, List.getElem?_map, List.getElem?_map]
  by_cases hi : i < ys.length
  · rw [List.getElem?_range hi, List.getElem?_eq_getElem hi]
    show some (V.int (g (ys.getD i 0))) = _
    rw [List.getD_eq_getElem?_getD, List.getElem?_eq_getElem hi]
    rfl
  · rw [List.getElem?_eq_none (by rw [List.length_range]; omega), List.getElem?_eq_none (by omega)]
    rfl
theorem vi_ne {xs : List Int} (h : 0 < xs.length) : vi xs ≠ [] := fun e => by
  rw [List.map_eq_nil_iff.mp e] at h
  exact Nat.lt_irrefl _ h
theorem iota_shf {m : Nat} (h0 : 0 < m) (h1 : m ≤ 300) : Shf (iota m) := ⟨by rw [iota_length]; exact h0, by rw [iota_length]; exact h1, by rw [iota_length]⟩

/-! ### pairs -/
theorem range_add' (a b : Nat) : List.range (a + b) = List.range a ++ (List.range b).map (a + ·) := List.range_add
def pairL (xs ys : List Int) : List Int := (List.range (xs.length * ys.length)).map fun p => xs.getD (p / ys.length) 0 * (ys.length : Int) + ys.getD (p % ys.length) 0
theorem flat2_div (n m : Nat) (h : 0 < m) (v : Nat → Nat → V) : flat2 n m v = (List.range (n * m)).map fun p => v (p / m) (p % m) := by
  induction n with
  | zero => simp [flat2]
  | succ n ih =>
    rw [flat2_succ, ih, Nat.succ_mul, range_add', List.map_append, List.map_map]
    congr 1
    refine List.map_congr_left fun j hj => ?_
    have hj := List.mem_range.mp hj
    show v n j = v ((n * m + j) / m) ((n * m + j) % m)
    rw [Nat.mul_comm n m, Nat.mul_add_div h, Nat.div_eq_of_lt hj, Nat.mul_add_mod, Nat.mod_eq_of_lt hj, Nat.add_zero]
theorem pairL_length (xs ys : List Int) : (pairL xs ys).length = xs.length * ys.length := by simp [pairL]
theorem Shf.getD_lt {ns : List Int} (h : Shf ns) (i : Nat) : 0 ≤ ns.getD i 0 ∧ ns.getD i 0 < ns.length := by
  by_cases hi : i < ns.length
  · obtain ⟨k, _, e, l⟩ := Shf.get h hi
    omega
  · rw [List.getD_eq_getElem?_getD, List.getElem?_eq_none (by omega)]
    have := h.1
    show 0 ≤ (0 : Int) ∧ (0 : Int) < _
    omega
theorem pair_lt {n m x y : Int} (h0 : 0 ≤ x) (h1 : x < n) (h2 : 0 ≤ y) (h3 : y < m) : 0 ≤ x * m + y ∧ x * m + y < n * m := by
  have a : 0 ≤ x * m := Int.mul_nonneg h0 (by omega)
  have b : (x + 1) * m ≤ n * m := Int.mul_le_mul_of_nonneg_right (by omega) (by omega)
  rw [Int.add_mul] at b
  omega
theorem pair_wide {xs ys : List Int} (hx : Shf xs) (hy : Shf ys) (h : xs.length * ys.length ≤ 300) : wide 1900 (pairL xs ys) ∧ (pairL xs ys).length ≤ 4000 := by
  refine ⟨(wide_lt (k := 20) (by decide) fun n hn => ?_).mono (by decide), by rw [pairL_length]; omega⟩
  obtain ⟨p, hp, rfl⟩ := List.mem_map.mp hn
  obtain ⟨a0, a1⟩ := Shf.getD_lt hx (p / ys.length)
  obtain ⟨b0, b1⟩ := Shf.getD_lt hy (p % ys.length)
  obtain ⟨c0, c1⟩ := pair_lt a0 a1 b0 b1
  have : (xs.length : Int) * (ys.length : Int) ≤ 300 := by
    rw [← Int.natCast_mul]
    omega
  omega
theorem pairL_getD {xs ys : List Int} {p : Nat} (h : p < xs.length * ys.length) : (pairL xs ys).getD p 0 = xs.getD (p / ys.length) 0 * (ys.length : Int) + ys.getD (p % ys.length) 0 := by
  unfold pairL
  rw [List.getD_eq_getElem?_getD, List.getElem?_map, List.getElem?_range h]
  rfl
theorem pair_one (xs : List Int) : pairL [0] xs = xs := by
  refine List.ext_getElem? fun i => ?_
  unfold pairL
  rw [List.getElem?_map]
  by_cases hi : i < xs.length
  · rw [List.getElem?_range (by simpa using hi), List.getElem?_eq_getElem hi]
    show some (([0] : List Int).getD (i / xs.length) 0 * (xs.length : Int) + xs.getD (i % xs.length) 0) = _
    rw [Nat.div_eq_of_lt hi, Nat.mod_eq_of_lt hi, List.getD_eq_getElem?_getD, List.getD_eq_getElem?_getD, List.getElem?_eq_getElem hi]
    show some ((0 : Int) * (xs.length : Int) + xs[i]) = _
    rw [Int.zero_mul, Int.zero_add]
  · rw [List.getElem?_eq_none (by simpa using hi), List.getElem?_eq_none (by omega)]
    rfl
theorem pair_one' (xs : List Int) : pairL xs [0] = xs := by
  refine List.ext_getElem? fun i => ?_
  unfold pairL
  rw [List.getElem?_map]
  by_cases hi : i < xs.length
  · rw [List.getElem?_range (by simpa using hi), List.getElem?_eq_getElem hi]
    show some (xs.getD (i / 1) 0 * ((1 : Nat) : Int) + ([0] : List Int).getD (i % 1) 0) = _
    rw [Nat.div_one, Nat.mod_one, List.getD_eq_getElem?_getD, List.getElem?_eq_getElem hi]
    show some (xs[i] * ((1 : Nat) : Int) + 0) = _
    rw [Int.add_zero, show ((1 : Nat) : Int) = 1 from rfl, Int.mul_one]
  · rw [List.getElem?_eq_none (by simpa using hi), List.getElem?_eq_none (by omega)]
    rfl
/-- the other way round -/
def turnIx (n m p : Nat) : Nat := p % m * n + p / m
theorem turnIx_lt {n m p : Nat} (h : p < n * m) : turnIx n m p < m * n := by
  have hm : 0 < m := by
    cases m with
    | zero => rw [Nat.mul_zero] at h; exact absurd h (Nat.not_lt_zero _)
    | succ m => exact Nat.succ_pos m
  have a : p % m < m := Nat.mod_lt _ hm
  have b : p / m < n := Nat.div_lt_of_lt_mul (by rw [Nat.mul_comm]; exact h)
  have c : (p % m + 1) * n ≤ m * n := Nat.mul_le_mul_right _ a
  rw [Nat.succ_mul] at c
  unfold turnIx
  omega
theorem turnIx_back {n m q : Nat} (h : q < m * n) : ∃ p, p < n * m ∧ turnIx n m p = q := by
  have hn : 0 < n := by
    cases n with
    | zero => rw [Nat.mul_zero] at h; exact absurd h (Nat.not_lt_zero _)
    | succ n => exact Nat.succ_pos n
  have a : q % n < n := Nat.mod_lt _ hn
  have b : q / n < m := Nat.div_lt_of_lt_mul (by rw [Nat.mul_comm]; exact h)
  have hm : 0 < m := Nat.lt_of_le_of_lt (Nat.zero_le _) b
  refine ⟨q % n * m + q / n, ?_, ?_⟩
  · have c : (q % n + 1) * m ≤ n * m := Nat.mul_le_mul_right _ a
    rw [Nat.succ_mul] at c
    omega
  · unfold turnIx
    rw [Nat.mul_comm (q % n) m, Nat.mul_add_mod, Nat.mod_eq_of_lt b, Nat.mul_add_div hm, Nat.div_eq_of_lt b, Nat.add_zero, Nat.mul_comm]
    exact Nat.div_add_mod q n
theorem turn_val {xs ys : List Int} (hx : Shf xs) (hy : Shf ys) {p : Nat} (h : p < xs.length * ys.length) :
    (pairL xs ys).getD p 0 % (ys.length : Int) * (xs.length : Int) + (pairL xs ys).getD p 0 / (ys.length : Int) = (pairL ys xs).getD (turnIx xs.length ys.length p) 0 := by
  have hm : 0 < ys.length := hy.1
  have hn : 0 < xs.length := hx.1
  obtain ⟨a0, a1⟩ := Shf.getD_lt hx (p / ys.length)
  obtain ⟨b0, b1⟩ := Shf.getD_lt hy (p % ys.length)
  have b : p / ys.length < xs.length := Nat.div_lt_of_lt_mul (by rw [Nat.mul_comm]; exact h)
  rw [pairL_getD h, pairL_getD (turnIx_lt h)]
  have e1 : turnIx xs.length ys.length p / xs.length = p % ys.length := by
    unfold turnIx
    rw [Nat.mul_comm (p % ys.length) xs.length, Nat.mul_add_div hn, Nat.div_eq_of_lt b, Nat.add_zero]
  have e2 : turnIx xs.length ys.length p % xs.length = p / ys.length := by
    unfold turnIx
    rw [Nat.mul_comm (p % ys.length) xs.length, Nat.mul_add_mod, Nat.mod_eq_of_lt b]
  rw [e1, e2]
  generalize xs.getD (p / ys.length) 0 = x at *
  generalize ys.getD (p % ys.length) 0 = y at *
  have e3 : (x * (ys.length : Int) + y) % (ys.length : Int) = y := by
    rw [Int.add_comm, Int.mul_comm x, Int.add_mul_emod_self_left, Int.emod_eq_of_lt b0 b1]
  have e4 : (x * (ys.length : Int) + y) / (ys.length : Int) = x := by
    rw [Int.add_comm, Int.add_mul_ediv_right _ _ (by omega), Int.ediv_eq_zero_of_lt b0 b1, Int.zero_add]
  rw [e3, e4]
theorem turn_end {xs ys F : List Int} (hl : F.length = xs.length * ys.length) (h : ∀ p, p < xs.length * ys.length → F.getD (turnIx xs.length ys.length p) 0 = (pairL ys xs).getD (turnIx xs.length ys.length p) 0) : F = pairL ys xs := by
  refine List.ext_getElem? fun i => ?_
  by_cases hi : i < ys.length * xs.length
  · obtain ⟨p, hp, e⟩ := turnIx_back (n := xs.length) (m := ys.length) hi
    have := h p hp
    rw [e, List.getD_eq_getElem?_getD, List.getD_eq_getElem?_getD] at this
    have l1 : i < F.length := by rw [hl, Nat.mul_comm]; exact hi
    have l2 : i < (pairL ys xs).length := by rw [pairL_length]; exact hi
    rw [List.getElem?_eq_getElem l1, List.getElem?_eq_getElem l2] at this ⊢
    exact congrArg some this
  · rw [List.getElem?_eq_none (by rw [hl, Nat.mul_comm]; omega), List.getElem?_eq_none (by rw [pairL_length]; omega)]

/-! ### rings of a shuffle -/
def nx (ds : List Int) (i : Nat) : Nat := (ds.getD i 0).toNat
def orb (ds : List Int) (i : Nat) : Nat → Nat
  | 0 => i
  | t + 1 => nx ds (orb ds i t)
theorem nx_at {ds : List Int} (h : Shf ds) {i : Nat} (hi : i < ds.length) : (vi ds)[i]? = some (.int (nx ds i : Int)) := by
  obtain ⟨k, e1, e2, _⟩ := Shf.get h hi
  unfold nx vi
  rw [List.getElem?_map, e1, e2, Int.toNat_natCast]
  rfl
theorem nx_get {ds : List Int} (h : Shf ds) {i : Nat} (hi : i < ds.length) : ds.getD i 0 = (nx ds i : Int) := by
  obtain ⟨k, e1, e2, _⟩ := Shf.get h hi
  unfold nx
  rw [e2, Int.toNat_natCast]
theorem nx_lt {ds : List Int} (h : Shf ds) {i : Nat} (hi : i < ds.length) : nx ds i < ds.length := by
  obtain ⟨k, e1, e2, l⟩ := Shf.get h hi
  unfold nx
  rw [e2, Int.toNat_natCast]
  exact l
theorem nx_inj {ds : List Int} (h : Shf ds) {i j : Nat} (hi : i < ds.length) (hj : j < ds.length) (e : nx ds i = nx ds j) : i = j :=
  Shf.inj h hi hj (by rw [nx_get h hi, nx_get h hj, e])
theorem orb_lt {ds : List Int} (h : Shf ds) {i : Nat} (hi : i < ds.length) : ∀ t, orb ds i t < ds.length
  | 0 => hi
  | t + 1 => nx_lt h (orb_lt h hi t)
theorem orb_add (ds : List Int) (i a : Nat) : ∀ b, orb ds i (a + b) = orb ds (orb ds i a) b
  | 0 => rfl
  | b + 1 => by
    show nx ds (orb ds i (a + b)) = nx ds (orb ds (orb ds i a) b)
    rw [orb_add ds i a b]
structure IsRing (ds : List Int) (r : List Nat) : Prop where
  pos : 0 < r.length
  nd : r.Nodup
  lt : ∀ i ∈ r, i < ds.length
  nxt : ∀ j, j < r.length → nx ds (r.getD j 0) = r.getD ((j + 1) % r.length) 0
theorem getD_of {r : List Nat} {j : Nat} (h : j < r.length) : r.getD j 0 = r[j] := by
  rw [List.getD_eq_getElem?_getD, List.getElem?_eq_getElem h]
  rfl
theorem IsRing.orb {ds : List Int} {r : List Nat} (h : IsRing ds r) {j : Nat} (hj : j < r.length) : ∀ t, My.orb ds (r.getD j 0) t = r.getD ((j + t) % r.length) 0
  | 0 => by
    rw [Nat.add_zero, Nat.mod_eq_of_lt hj]
    rfl
  | t + 1 => by
    show nx ds (My.orb ds (r.getD j 0) t) = _
    rw [h.orb hj t, h.nxt _ (Nat.mod_lt _ h.pos), Nat.mod_add_mod, Nat.add_assoc]
theorem IsRing.ix {ds : List Int} {r : List Nat} (h : IsRing ds r) {a b : Nat} (ha : a < r.length) (hb : b < r.length) (e : r.getD a 0 = r.getD b 0) : a = b := by
  rw [getD_of ha, getD_of hb] at e
  exact (List.getElem_inj h.nd).mp e
theorem mod_back {j t n : Nat} (hj : j < n) : (j + t) % n = j ↔ t % n = 0 := by
  have hn : 0 < n := by omega
  have h := Nat.mod_lt t hn
  rw [← Nat.add_mod_mod]
  by_cases c : j + t % n < n
  · rw [Nat.mod_eq_of_lt c]
    omega
  · rw [Nat.mod_eq_sub_mod (by omega), Nat.mod_eq_of_lt (by omega)]
    omega
theorem IsRing.back {ds : List Int} {r : List Nat} (h : IsRing ds r) {j : Nat} (hj : j < r.length) (t : Nat) : My.orb ds (r.getD j 0) t = r.getD j 0 ↔ t % r.length = 0 := by
  rw [h.orb hj t]
  refine Iff.trans ⟨fun e => h.ix (Nat.mod_lt _ h.pos) hj e, fun e => by rw [e]⟩ (mod_back hj)
theorem IsRing.mem {ds : List Int} {r : List Nat} {i : Nat} (hi : i ∈ r) : ∃ j, j < r.length ∧ r.getD j 0 = i := by
  obtain ⟨j, hj, e⟩ := List.getElem_of_mem hi
  exact ⟨j, hj, by rw [getD_of hj, e]⟩
theorem IsRing.fro {ds : List Int} (hs : Shf ds) {r : List Nat} (h : IsRing ds r) {x : Nat} (hx : x < ds.length) (hm : nx ds x ∈ r) : x ∈ r := by
  obtain ⟨k, hk, e⟩ := IsRing.mem (ds := ds) hm
  have hp := h.pos
  have hl : (k + r.length - 1) % r.length < r.length := Nat.mod_lt _ hp
  have e2 := h.nxt _ hl
  rw [Nat.mod_add_mod, show k + r.length - 1 + 1 = k + r.length by omega, Nat.add_mod_right, Nat.mod_eq_of_lt hk, e] at e2
  have hr : r.getD ((k + r.length - 1) % r.length) 0 ∈ r := by
    rw [getD_of hl]
    exact List.getElem_mem hl
  rw [← nx_inj hs (h.lt _ hr) hx e2]
  exact hr
/-- the first turn behind which i is back -/
def wt (ds : List Int) (i : Nat) : Nat → Nat × Nat
  | 0 => (nx ds i, 1)
  | k + 1 => if (wt ds i k).1 = i then wt ds i k else (nx ds (wt ds i k).1, (wt ds i k).2 + 1)
def per (ds : List Int) (i : Nat) : Nat := (wt ds i ds.length).2
theorem nlen_le {n : Nat} {l : List Nat} (hn : l.Nodup) (h : ∀ x ∈ l, x < n) : l.length ≤ n := by
  have := len_le (n := n) (l := l.map fun k : Nat => (k : Int)) (List.Pairwise.map _ (fun a b (hab : a ≠ b) => by
    intro e
    exact hab (Int.ofNat.inj e)) hn) fun x hx => by
    obtain ⟨k, hk, rfl⟩ := List.mem_map.mp hx
    have := h k hk
    omega
  rw [List.length_map] at this
  exact this
theorem IsRing.wt {ds : List Int} {r : List Nat} (h : IsRing ds r) {j : Nat} (hj : j < r.length) : ∀ k, My.wt ds (r.getD j 0) k = (My.orb ds (r.getD j 0) (min r.length (k + 1)), min r.length (k + 1))
  | 0 => by
    have hp := h.pos
    rw [show min r.length (0 + 1) = 1 by omega]
    rfl
  | k + 1 => by
    have hp := h.pos
    show (if (My.wt ds (r.getD j 0) k).1 = r.getD j 0 then My.wt ds (r.getD j 0) k else (nx ds (My.wt ds (r.getD j 0) k).1, (My.wt ds (r.getD j 0) k).2 + 1)) = _
    rw [h.wt hj k]
    by_cases c : r.length ≤ k + 1
    · rw [show min r.length (k + 1) = r.length by omega, show min r.length (k + 1 + 1) = r.length by omega, if_pos ((h.back hj r.length).mpr (Nat.mod_self _))]
    · rw [show min r.length (k + 1) = k + 1 by omega, show min r.length (k + 1 + 1) = k + 1 + 1 by omega, if_neg fun e => by
        have := (h.back hj (k + 1)).mp e
        rw [Nat.mod_eq_of_lt (by omega)] at this
        omega]
      rfl
theorem IsRing.len_le {ds : List Int} {r : List Nat} (h : IsRing ds r) : r.length ≤ ds.length := nlen_le h.nd h.lt
theorem IsRing.per {ds : List Int} {r : List Nat} (h : IsRing ds r) {j : Nat} (hj : j < r.length) : My.per ds (r.getD j 0) = r.length := by
  unfold My.per
  rw [h.wt hj]
  have := h.len_le
  show min _ _ = _
  omega
def ringL (ds : List Int) (i : Nat) : List Nat := (List.range (per ds i)).map (orb ds i)
def ringsL (ds : List Int) : Nat → List (List Nat)
  | 0 => []
  | i + 1 => if i ∈ (ringsL ds i).flatten then ringsL ds i else ringsL ds i ++ [ringL ds i]
def track (ds : List Int) (i j : Nat) : List Nat := (List.range j).map (orb ds i)
theorem track_length (ds : List Int) (i j : Nat) : (track ds i j).length = j := by simp [track]
theorem track_getD (ds : List Int) (i : Nat) {j k : Nat} (h : k < j) : (track ds i j).getD k 0 = orb ds i k := by
  unfold track
  rw [List.getD_eq_getElem?_getD, List.getElem?_map, List.getElem?_range h]
  rfl
theorem track_succ (ds : List Int) (i j : Nat) : track ds i (j + 1) = track ds i j ++ [orb ds i j] := by
  unfold track
  rw [List.range_succ, List.map_append]
  rfl
/-- a walk that comes to a marked place is a ring -/
theorem ring_close {ds : List Int} (hs : Shf ds) {i j : Nat} (hi : i < ds.length) {F : List Nat} (hF : i ∉ F) (hb : ∀ x, x < ds.length → nx ds x ∈ F → x ∈ F) (nd : (F ++ track ds i j).Nodup) (hm : orb ds i j ∈ F ++ track ds i j) : IsRing ds (track ds i j) := by
  have ndt : (track ds i j).Nodup := (List.nodup_append.mp nd).2.1
  have nf : ∀ k, orb ds i k ∉ F := by
    intro k
    induction k with
    | zero => exact hF
    | succ k ih => exact fun h => ih (hb _ (orb_lt hs hi k) h)
  have m : orb ds i j ∈ track ds i j := by
    rcases List.mem_append.mp hm with h | h
    · exact absurd h (nf j)
    · exact h
  obtain ⟨k, hk, e⟩ := IsRing.mem (ds := ds) m
  rw [track_length] at hk
  rw [track_getD ds i hk] at e
  have back : orb ds i j = i := by
    cases k with
    | zero => exact e.symm
    | succ k =>
      obtain ⟨j', rfl⟩ : ∃ j', j = j' + 1 := ⟨j - 1, by omega⟩
      have e2 := nx_inj hs (orb_lt hs hi k) (orb_lt hs hi j') e
      have g1 : (track ds i (j' + 1))[k]? = some (orb ds i k) := by
        unfold track
        rw [List.getElem?_map, List.getElem?_range (by omega)]
        rfl
      have g2 : (track ds i (j' + 1))[j']? = some (orb ds i j') := by
        unfold track
        rw [List.getElem?_map, List.getElem?_range (by omega)]
        rfl
      have l1 : k < (track ds i (j' + 1)).length := by rw [track_length]; omega
      have : k = j' := (List.getElem?_inj l1 ndt).mp (by rw [g1, g2, e2])
      omega
  refine ⟨by rw [track_length]; omega, ndt, ?_, ?_⟩
  · intro x hx
    obtain ⟨t, _, rfl⟩ := List.mem_map.mp hx
    exact orb_lt hs hi t
  · intro t ht
    rw [track_length] at ht
    rw [track_length, track_getD ds i ht]
    by_cases c : t + 1 < j
    · rw [Nat.mod_eq_of_lt c, track_getD ds i c]
      rfl
    · have : t + 1 = j := by omega
      rw [this, Nat.mod_self, track_getD ds i (by omega)]
      have b2 : orb ds i (t + 1) = i := by rw [this]; exact back
      exact b2
structure Rings (ds : List Int) (R : List (List Nat)) (m : Nat) : Prop where
  ring : ∀ r ∈ R, IsRing ds r
  nd : R.flatten.Nodup
  all : ∀ i, i < m → i ∈ R.flatten
theorem Rings.lt {ds : List Int} {R : List (List Nat)} {m : Nat} (h : Rings ds R m) : ∀ i ∈ R.flatten, i < ds.length := fun i hi => by
  obtain ⟨r, hr, him⟩ := List.mem_flatten.mp hi
  exact (h.ring r hr).lt i him
theorem Rings.fro {ds : List Int} (hs : Shf ds) {R : List (List Nat)} {m : Nat} (h : Rings ds R m) (x : Nat) (hx : x < ds.length) (hm : nx ds x ∈ R.flatten) : x ∈ R.flatten := by
  obtain ⟨r, hr, him⟩ := List.mem_flatten.mp hm
  exact List.mem_flatten.mpr ⟨r, hr, (h.ring r hr).fro hs hx him⟩
theorem Rings.nil (ds : List Int) : Rings ds [] 0 := ⟨(fun _ h => nomatch h), List.nodup_nil, fun _ h => absurd h (Nat.not_lt_zero _)⟩
theorem Rings.skip {ds : List Int} {R : List (List Nat)} {m : Nat} (h : Rings ds R m) (hm : m ∈ R.flatten) : Rings ds R (m + 1) := ⟨h.ring, h.nd, fun i hi => by
  by_cases e : i = m
  · rw [e]
    exact hm
  · exact h.all i (by omega)⟩
theorem Rings.put {ds : List Int} {R : List (List Nat)} {m j : Nat} (h : Rings ds R m) (hr : IsRing ds (track ds m j)) (nd : (R.flatten ++ track ds m j).Nodup) : Rings ds (R ++ [track ds m j]) (m + 1) := by
  have ef : (R ++ [track ds m j]).flatten = R.flatten ++ track ds m j := by
    rw [List.flatten_append, List.flatten_singleton]
  refine ⟨fun r h1 => ?_, by rw [ef]; exact nd, fun i hi => ?_⟩
  · rcases List.mem_append.mp h1 with h1 | h1
    · exact h.ring r h1
    · rw [List.mem_singleton.mp h1]
      exact hr
  · rw [ef]
    by_cases e : i = m
    · refine List.mem_append_right _ (List.mem_map.mpr ⟨0, ?_, e.symm⟩)
      have := hr.pos
      rw [track_length] at this
      exact List.mem_range.mpr this
    · exact List.mem_append_left _ (h.all i (by omega))
theorem track_is {ds : List Int} {m j : Nat} (hr : IsRing ds (track ds m j)) : track ds m j = ringL ds m := by
  have p := hr.pos
  have e := hr.per p
  rw [track_length] at p e
  rw [track_getD ds m p] at e
  unfold ringL
  rw [show My.per ds m = j from e]
  rfl
/-- marked places -/
def marks (n : Nat) (M : List Nat) : List V := (List.range n).map fun i => V.bl (decide (i ∈ M))
theorem marks_nil (n : Nat) : (List.replicate n [V.bl false]).flatten = marks n [] := by
  unfold marks
  induction n with
  | zero => rfl
  | succ n ih =>
    rw [List.replicate_succ', List.flatten_append, ih, List.range_succ, List.map_append]
    rfl
theorem marks_at {n i : Nat} (M : List Nat) (h : i < n) : (marks n M)[i]? = some (.bl (decide (i ∈ M))) := by
  unfold marks
  rw [List.getElem?_map, List.getElem?_range h]
  rfl
theorem marks_set {n p : Nat} (M : List Nat) (h : p < n) : (marks n M).set p (.bl true) = marks n (M ++ [p]) := by
  refine List.ext_getElem? fun i => ?_
  by_cases hi : i < n
  · rw [marks_at _ hi]
    by_cases e : p = i
    · subst e
      rw [List.getElem?_set_self (by unfold marks; simpa using h)]
      simp
    · rw [List.getElem?_set_ne e, marks_at _ hi]
      have : i ∈ M ++ [p] ↔ i ∈ M := by
        rw [List.mem_append, List.mem_singleton]
        exact ⟨fun h => h.elim id fun h => absurd h.symm e, .inl⟩
      simp only [this]
  · rw [List.getElem?_eq_none (by rw [List.length_set]; unfold marks; rw [List.length_map, List.length_range]; omega), List.getElem?_eq_none (by unfold marks; rw [List.length_map, List.length_range]; omega)]
theorem marks_length (n : Nat) (M : List Nat) : (marks n M).length = n := by simp [marks]

/-- the rings of a shuffle, found -/
theorem orb_shift (ds : List Int) (i : Nat) (t : Nat) : orb ds (nx ds i) t = orb ds i (t + 1) := by
  rw [Nat.add_comm, orb_add]
  rfl
theorem rings_step {ds : List Int} (hs : Shf ds) {R : List (List Nat)} {i : Nat} (hi : i < ds.length) (rg : Rings ds R i) (hm : i ∉ R.flatten) : ∃ j, IsRing ds (track ds i j) ∧ (R.flatten ++ track ds i j).Nodup := by
  have M0 : R.flatten.length ≤ ds.length := nlen_le rg.nd rg.lt
  have go : ∀ m j, m + (R.flatten.length + j) = ds.length → (R.flatten ++ track ds i j).Nodup → ∃ j, IsRing ds (track ds i j) ∧ (R.flatten ++ track ds i j).Nodup := by
    intro m
    induction m with
    | zero =>
      intro j hj nd
      by_cases hmm : orb ds i j ∈ R.flatten ++ track ds i j
      · exact ⟨j, ring_close hs hi hm (rg.fro hs) nd hmm, nd⟩
      · have nd2 : (R.flatten ++ track ds i (j + 1)).Nodup := by
          rw [track_succ, ← List.append_assoc]
          refine List.nodup_append.mpr ⟨nd, List.pairwise_singleton _ _, fun x hx y hy e => ?_⟩
          rw [List.mem_singleton.mp hy] at e
          exact hmm (e ▸ hx)
        have lt2 : (R.flatten ++ track ds i (j + 1)).length ≤ ds.length := by
          refine nlen_le nd2 fun x hx => ?_
          rcases List.mem_append.mp hx with h | h
          · exact rg.lt x h
          · obtain ⟨t, _, rfl⟩ := List.mem_map.mp h
            exact orb_lt hs hi t
        rw [List.length_append, track_length] at lt2
        omega
    | succ m ih =>
      intro j hj nd
      by_cases hmm : orb ds i j ∈ R.flatten ++ track ds i j
      · exact ⟨j, ring_close hs hi hm (rg.fro hs) nd hmm, nd⟩
      · refine ih (j + 1) (by omega) ?_
        rw [track_succ, ← List.append_assoc]
        refine List.nodup_append.mpr ⟨nd, List.pairwise_singleton _ _, fun x hx y hy e => ?_⟩
        rw [List.mem_singleton.mp hy] at e
        exact hmm (e ▸ hx)
  refine go (ds.length - R.flatten.length) 0 (by omega) ?_
  show (R.flatten ++ []).Nodup
  rw [List.append_nil]
  exact rg.nd
theorem rings_upto {ds : List Int} (hs : Shf ds) : ∀ i, i ≤ ds.length → Rings ds (ringsL ds i) i
  | 0, _ => Rings.nil ds
  | i + 1, hi => by
    have rg := rings_upto hs i (by omega)
    by_cases hm : i ∈ (ringsL ds i).flatten
    · rw [show ringsL ds (i + 1) = ringsL ds i from if_pos hm]
      exact rg.skip hm
    · rw [show ringsL ds (i + 1) = ringsL ds i ++ [ringL ds i] from if_neg hm]
      obtain ⟨j, hr, nd⟩ := rings_step hs (show i < ds.length by omega) rg hm
      rw [← track_is hr]
      exact rg.put hr nd
theorem rings_of {ds : List Int} (hs : Shf ds) : Rings ds (ringsL ds ds.length) ds.length := rings_upto hs _ (Nat.le_refl _)

/-! ### how many are back -/
theorem Rings.perm {ds : List Int} (hs : Shf ds) (h : Rings ds R ds.length) : R.flatten.Perm (List.range ds.length) :=
  (List.perm_ext_iff_of_nodup h.nd List.nodup_range).mpr fun i => ⟨fun m => List.mem_range.mpr (h.lt i m), fun m => h.all i (List.mem_range.mp m)⟩
def lensL (ds : List Int) : List Int := (up ((ringsL ds ds.length).map List.length)).mergeSort (fun a b => decide (a ≤ b))
theorem lens_perm (ds : List Int) : (up ((ringsL ds ds.length).map List.length)).Perm (lensL ds) := (List.mergeSort_perm _ _).symm
theorem lens_sorted (ds : List Int) : (lensL ds).Pairwise (· ≤ ·) := by
  have h := List.pairwise_mergeSort (le := fun a b : Int => decide (a ≤ b)) (fun a b c x y => decide_eq_true (Int.le_trans (of_decide_eq_true x) (of_decide_eq_true y))) (fun a b => by
    rcases Int.le_total a b with h | h
    · simp [h]
    · simp [h]) (up ((ringsL ds ds.length).map List.length))
  exact h.imp fun h => of_decide_eq_true h
theorem lens_mem {ds : List Int} (h : Rings ds (ringsL ds ds.length) ds.length) {l : Int} (hl : l ∈ lensL ds) : 1 ≤ l ∧ l ≤ ds.length := by
  obtain ⟨k, hk, rfl⟩ := List.mem_map.mp ((lens_perm ds).mem_iff.mpr hl)
  obtain ⟨r, hr, rfl⟩ := List.mem_map.mp hk
  have := (h.ring r hr).pos
  have := (h.ring r hr).len_le
  omega
theorem lens_length (ds : List Int) : (lensL ds).length = (ringsL ds ds.length).length := by
  rw [← (lens_perm ds).length_eq, up_length, List.length_map]
theorem rings_length {ds : List Int} (h : Rings ds (ringsL ds ds.length) ds.length) : (ringsL ds ds.length).length ≤ ds.length :=
  Nat.le_trans (rings_le fun r hr => (h.ring r hr).pos) (nlen_le h.nd h.lt)
def cnt (ds : List Int) (t : Nat) : Nat := ((List.range ds.length).filter fun k => decide (orb ds k t = k)).length
theorem ring_cnt {ds : List Int} {r : List Nat} (h : IsRing ds r) (t : Nat) : (r.filter fun k => decide (orb ds k t = k)).length = if t % r.length = 0 then r.length else 0 := by
  by_cases c : t % r.length = 0
  · rw [if_pos c, List.filter_eq_self.mpr]
    intro k hk
    obtain ⟨j, hj, rfl⟩ := IsRing.mem (ds := ds) hk
    exact decide_eq_true ((h.back hj t).mpr c)
  · rw [if_neg c, List.filter_eq_nil_iff.mpr]
    · rfl
    intro k hk
    obtain ⟨j, hj, rfl⟩ := IsRing.mem (ds := ds) hk
    intro e
    exact c ((h.back hj t).mp (of_decide_eq_true e))
theorem rings_cnt {ds : List Int} (t : Nat) : ∀ {R : List (List Nat)}, (∀ r ∈ R, IsRing ds r) → ((R.flatten.filter fun k => decide (orb ds k t = k)).length : Int) = ((up (R.map List.length)).filter fun l => decide ((t : Int) % l = 0)).sum
  | [], _ => rfl
  | r :: R, h => by
    have ih := rings_cnt t (R := R) fun r hr => h r (List.mem_cons_of_mem _ hr)
    have hr := ring_cnt (h r List.mem_cons_self) t
    have e : ((t : Int) % (r.length : Int) = 0) ↔ t % r.length = 0 := by
      rw [← Int.natCast_emod]
      omega
    rw [List.flatten_cons, List.filter_append, List.length_append, hr, Int.natCast_add, ih]
    show _ = (((r.length : Int) :: up (R.map List.length)).filter fun l => decide ((t : Int) % l = 0)).sum
    rw [List.filter_cons]
    by_cases c : t % r.length = 0
    · rw [if_pos c, if_pos (decide_eq_true (e.mpr c)), List.sum_cons]
    · rw [if_neg c, if_neg (by simpa using fun x => c (e.mp x))]
      omega
theorem back_cnt {ds : List Int} (hs : Shf ds) (h : Rings ds (ringsL ds ds.length) ds.length) (t : Nat) : ((lensL ds).filter fun l => decide ((t : Int) % l = 0)).sum = (cnt ds t : Int) := by
  rw [← perm_sum ((lens_perm ds).filter _), ← rings_cnt t h.ring]
  unfold cnt
  rw [((h.perm hs).filter _).length_eq]
def backL (ds : List Int) (m : Nat) : List Nat := (List.range m).map fun t => cnt ds (t + 1)
theorem cnt_le (ds : List Int) (t : Nat) : cnt ds t ≤ ds.length := by
  have := List.length_filter_le (fun k => decide (orb ds k t = k)) (List.range ds.length)
  rw [List.length_range] at this
  exact this

/-! ### turned -/
theorem per_ring {ds : List Int} (hs : Shf ds) {i : Nat} (hi : i < ds.length) : ∃ r j, IsRing ds r ∧ j < r.length ∧ r.getD j 0 = i ∧ per ds i = r.length := by
  have rg := rings_of hs
  obtain ⟨r, hr, him⟩ := List.mem_flatten.mp (rg.all i hi)
  obtain ⟨j, hj, rfl⟩ := IsRing.mem (ds := ds) him
  exact ⟨r, j, rg.ring r hr, hj, rfl, (rg.ring r hr).per hj⟩
theorem per_pos {ds : List Int} (hs : Shf ds) {i : Nat} (hi : i < ds.length) : 1 ≤ per ds i ∧ per ds i ≤ ds.length := by
  obtain ⟨r, j, hr, hj, _, e⟩ := per_ring hs hi
  have := hr.pos
  have := hr.len_le
  omega
theorem orb_back {ds : List Int} (hs : Shf ds) {i : Nat} (hi : i < ds.length) (t : Nat) : orb ds i t = i ↔ t % per ds i = 0 := by
  obtain ⟨r, j, hr, hj, rfl, e⟩ := per_ring hs hi
  rw [e]
  exact hr.back hj t
theorem orb_mod {ds : List Int} (hs : Shf ds) {i : Nat} (hi : i < ds.length) (t : Nat) : orb ds i (t % per ds i) = orb ds i t := by
  obtain ⟨r, j, hr, hj, rfl, e⟩ := per_ring hs hi
  rw [e, hr.orb hj, hr.orb hj, Nat.add_mod_mod]
def tn (ds : List Int) (t : Int) (i : Nat) : Nat := orb ds i (t % (per ds i : Int)).toNat
theorem tn_lt {ds : List Int} (hs : Shf ds) (t : Int) {i : Nat} (hi : i < ds.length) : tn ds t i < ds.length := orb_lt hs hi _
theorem tn_nat {ds : List Int} (hs : Shf ds) (t : Nat) {i : Nat} (hi : i < ds.length) : tn ds (t : Int) i = orb ds i t := by
  unfold tn
  rw [← Int.natCast_emod, Int.toNat_natCast, orb_mod hs hi]
theorem tn_ring {ds : List Int} {r : List Nat} (h : IsRing ds r) (t : Int) {j : Nat} (hj : j < r.length) : r.getD (((j : Int) + t) % (r.length : Int)).toNat 0 = tn ds t (r.getD j 0) := by
  have p := h.pos
  unfold tn
  rw [h.per hj, h.orb hj]
  congr 1
  have h0 := Int.emod_nonneg t (show (r.length : Int) ≠ 0 by omega)
  have e : (((j + (t % (r.length : Int)).toNat) % r.length : Nat) : Int) = ((j : Int) + t) % (r.length : Int) := by
    rw [Int.natCast_emod, Int.natCast_add, Int.toNat_of_nonneg h0, Int.add_emod_emod]
  omega
theorem tn_step {ds : List Int} (hs : Shf ds) (t : Int) {i : Nat} (hi : i < ds.length) : nx ds (tn ds t i) = tn ds (t + 1) i := by
  obtain ⟨p1, _⟩ := per_pos hs hi
  have h0 := Int.emod_nonneg t (show (per ds i : Int) ≠ 0 by omega)
  unfold tn
  show orb ds i ((t % (per ds i : Int)).toNat + 1) = _
  rw [← orb_mod hs hi]
  congr 1
  have e : ((((t % (per ds i : Int)).toNat + 1) % per ds i : Nat) : Int) = (t + 1) % (per ds i : Int) := by
    rw [Int.natCast_emod, Int.natCast_add, Int.toNat_of_nonneg h0]
    exact Int.emod_add_emod _ _ _
  omega
def turnL (ds : List Int) (t : Int) : List Int := (List.range ds.length).map fun i => (tn ds t i : Int)
theorem turn_length (ds : List Int) (t : Int) : (turnL ds t).length = ds.length := by simp [turnL]
theorem turn_end' {ds F : List Int} {t : Int} (h1 : F.length = ds.length) (h : ∀ i, i < ds.length → F.getD i 0 = (tn ds t i : Int)) : F = turnL ds t := by
  refine List.ext_getElem? fun i => ?_
  unfold turnL
  rw [List.getElem?_map]
  by_cases hi : i < ds.length
  · have := h i hi
    rw [List.getD_eq_getElem?_getD, List.getElem?_eq_getElem (show i < F.length by omega)] at this
    rw [List.getElem?_range hi, List.getElem?_eq_getElem (show i < F.length by omega)]
    exact congrArg some this
  · rw [List.getElem?_eq_none (show F.length ≤ i by omega), List.getElem?_eq_none (by rw [List.length_range]; omega)]
    rfl
theorem turn_wide {ds : List Int} (hs : Shf ds) (t : Int) : wide 1900 (turnL ds t) ∧ (turnL ds t).length ≤ 4000 := by
  have h3 := hs.2.1
  refine ⟨(wide_lt (k := 20) (by decide) fun n hn => ?_).mono (by decide), by rw [turn_length]; omega⟩
  obtain ⟨i, hi, rfl⟩ := List.mem_map.mp hn
  have := tn_lt hs t (List.mem_range.mp hi)
  omega
theorem up_at {r : List Nat} {j : Nat} (h : j < r.length) : (vi (up r))[j]? = some (.int (r.getD j 0 : Int)) := by
  unfold vi up
  rw [List.getElem?_map, List.getElem?_map, List.getElem?_eq_getElem h, getD_of h]
  rfl
theorem set_getD {F : List Int} {k j : Nat} {x : Int} (h : k < F.length) : (F.set k x).getD j 0 = if j = k then x else F.getD j 0 := by
  rw [List.getD_eq_getElem?_getD, List.getD_eq_getElem?_getD]
  by_cases c : j = k
  · rw [if_pos c, c, List.getElem?_set_self h]
    rfl
  · rw [if_neg c, List.getElem?_set_ne (Ne.symm c)]
theorem take_flat {R : List (List Nat)} {i : Nat} {r : List Nat} (h : R[i]? = some r) : (R.take (i + 1)).flatten = (R.take i).flatten ++ r := by
  rw [List.take_add_one, h, List.flatten_append]
  show _ ++ (r ++ []) = _
  rw [List.append_nil]

/-! ### tables of numbers -/
def tabL (m : Nat) (f : Nat → Int) : List Int := (List.range m).map f
theorem tab_length (m : Nat) (f : Nat → Int) : (tabL m f).length = m := by simp [tabL]
theorem tab_get {m : Nat} {f : Nat → Int} {i : Nat} (h : i < m) : (tabL m f)[i]? = some (f i) := by
  unfold tabL
  rw [List.getElem?_map, List.getElem?_range h]
  rfl
theorem tab_at {m : Nat} {f : Nat → Int} {i : Nat} (h : i < m) : (vi (tabL m f))[i]? = some (.int (f i)) := by
  unfold vi
  rw [List.getElem?_map, tab_get h]
  rfl
theorem tab_getD {m : Nat} {f : Nat → Int} {i : Nat} (h : i < m) : (tabL m f).getD i 0 = f i := by
  rw [List.getD_eq_getElem?_getD, tab_get h]
  rfl
theorem tab_congr {m : Nat} {f g : Nat → Int} (h : ∀ i, i < m → f i = g i) : tabL m f = tabL m g := List.map_congr_left fun i hi => h i (List.mem_range.mp hi)
theorem tab_set {m : Nat} {f : Nat → Int} {j : Nat} {v : Int} (h : j < m) : (tabL m f).set j v = tabL m fun i => if i = j then v else f i := by
  refine List.ext_getElem? fun i => ?_
  by_cases hi : i < m
  · rw [tab_get hi]
    by_cases c : i = j
    · rw [c, List.getElem?_set_self (by rw [tab_length]; exact h), if_pos rfl]
    · rw [List.getElem?_set_ne (Ne.symm c), tab_get hi, if_neg c]
  · rw [List.getElem?_eq_none (by rw [List.length_set, tab_length]; omega), List.getElem?_eq_none (by rw [tab_length]; omega)]
theorem tab_self (r : List Int) : tabL r.length (fun i => r.getD i 0) = r := by
  refine List.ext_getElem? fun i => ?_
  by_cases hi : i < r.length
  · rw [tab_get hi, List.getElem?_eq_getElem hi, List.getD_eq_getElem?_getD, List.getElem?_eq_getElem hi]
    rfl
  · rw [List.getElem?_eq_none (by rw [tab_length]; omega), List.getElem?_eq_none (by omega)]
theorem tab_zero (m : Nat) : List.replicate m (0 : Int) = tabL m fun _ => 0 := by
  refine List.ext_getElem? fun i => ?_
  rw [List.getElem?_replicate]
  by_cases hi : i < m
  · rw [tab_get hi, if_pos hi]
  · rw [if_neg hi, List.getElem?_eq_none (by rw [tab_length]; omega)]
theorem given_tab (m : Nat) (f : Nat → Int) : given m (fun _ => true) (fun i => V.int (f i)) = vi (tabL m f) := given_ints _ _
/-! ### the row of counts -/
def part (c : List Int) (i : Nat) : Nat → Int
  | 0 => 0
  | k + 1 => part c i k + (if (i + 1) % (k + 1) = 0 then ((k + 1 : Nat) : Int) * c.getD k 0 else 0)
def rowL (c : List Int) : List Int := tabL c.length fun i => part c i (i + 1)
theorem rowL_length (c : List Int) : (rowL c).length = c.length := tab_length _ _
theorem part_stay (c : List Int) (i : Nat) {k : Nat} (h : i + 1 ≤ k) : part c i k = part c i (i + 1) := by
  induction k with
  | zero => omega
  | succ k ih =>
    by_cases e : i = k
    · rw [e]
    · show part c i k + (if (i + 1) % (k + 1) = 0 then _ else 0) = _
      rw [if_neg (by rw [Nat.mod_eq_of_lt (by omega)]; omega), ih (by omega), Int.add_zero]
/-- j is the t-th multiple of n -/
theorem mul_ix {n t i : Nat} (hn : 0 < n) (h : (i + 1) % n = 0) : (i + 1) / n ≤ t + 1 ↔ (i + 1) / n ≤ t ∨ i + 1 = n * (t + 1) := by
  have e := Nat.div_add_mod (i + 1) n
  rw [h, Nat.add_zero] at e
  constructor
  · intro k
    by_cases c : (i + 1) / n ≤ t
    · exact .inl c
    · right
      rw [← e, show (i + 1) / n = t + 1 by omega]
  · rintro (k | k)
    · omega
    · rw [k, Nat.mul_div_cancel_left _ hn]
      exact Nat.le_refl _
theorem mul_mod {n t : Nat} (hn : 0 < n) : (n * (t + 1) - 1 + 1) % n = 0 ∧ (n * (t + 1) - 1 + 1) / n = t + 1 := by
  have : 0 < n * (t + 1) := Nat.mul_pos hn (Nat.succ_pos t)
  rw [show n * (t + 1) - 1 + 1 = n * (t + 1) by omega]
  exact ⟨Nat.mul_mod_right _ _, Nat.mul_div_cancel_left _ hn⟩
/-! ### new numbers -/
def sub (r : List Int) : Nat → Nat → Int
  | 0, i => r.getD i 0
  | k + 1, i => sub r k i - (if k < i ∧ (i + 1) % (k + 1) = 0 then sub r k k else 0)
def newL (r : List Int) : List Int := tabL r.length (sub r r.length)
theorem newL_length (r : List Int) : (newL r).length = r.length := tab_length _ _
theorem sub_row (c : List Int) (k : Nat) : ∀ i, i < c.length → sub (rowL c) k i = part c i (i + 1) - part c i (min k i) := by
  induction k with
  | zero =>
    intro i hi
    show (rowL c).getD i 0 = _
    rw [Nat.zero_min]
    unfold rowL
    rw [tab_getD hi]
    show _ = _ - (0 : Int)
    omega
  | succ k ih =>
    intro i hi
    show sub (rowL c) k i - (if k < i ∧ (i + 1) % (k + 1) = 0 then sub (rowL c) k k else 0) = _
    rw [ih i hi]
    by_cases h : k < i
    · rw [show min (k + 1) i = k + 1 by omega, show min k i = k by omega]
      have ek : part c i (k + 1) = part c i k + (if (i + 1) % (k + 1) = 0 then ((k + 1 : Nat) : Int) * c.getD k 0 else 0) := rfl
      by_cases h2 : (i + 1) % (k + 1) = 0
      · have e3 : part c k (k + 1) = part c k k + (if (k + 1) % (k + 1) = 0 then ((k + 1 : Nat) : Int) * c.getD k 0 else 0) := rfl
        rw [if_pos (Nat.mod_self _)] at e3
        rw [if_pos h2] at ek
        rw [if_pos ⟨h, h2⟩, ih k (by omega), Nat.min_self, ek, e3]
        omega
      · rw [if_neg h2] at ek
        rw [if_neg fun z => h2 z.2, ek]
        omega
    · rw [if_neg fun z => h z.1, show min (k + 1) i = i by omega, show min k i = i by omega]
      omega
theorem new_row (c : List Int) : newL (rowL c) = tabL c.length fun i => ((i + 1 : Nat) : Int) * c.getD i 0 := by
  unfold newL
  rw [rowL_length]
  refine tab_congr fun i hi => ?_
  rw [sub_row c _ i hi, show min c.length i = i by omega]
  have e3 : part c i (i + 1) = part c i i + (if (i + 1) % (i + 1) = 0 then ((i + 1 : Nat) : Int) * c.getD i 0 else 0) := rfl
  rw [if_pos (Nat.mod_self _)] at e3
  rw [e3]
  omega
/-- no bar -/
def Free (r : List Int) : Prop := ∀ i, i < r.length → ∃ q : Int, 0 ≤ q ∧ (newL r).getD i 0 = ((i + 1 : Nat) : Int) * q
theorem free_row {c : List Int} (h : ∀ n ∈ c, 0 ≤ n) : Free (rowL c) := fun i hi => by
  rw [rowL_length] at hi
  refine ⟨c.getD i 0, ?_, by rw [new_row, tab_getD hi]⟩
  rw [List.getD_eq_getElem?_getD, List.getElem?_eq_getElem hi]
  exact h _ (List.getElem_mem hi)
def ringsR (r : List Int) : List Int := tabL r.length fun i => (newL r).getD i 0 / ((i + 1 : Nat) : Int)
theorem rings_row (c : List Int) : ringsR (rowL c) = c := by
  unfold ringsR
  rw [rowL_length]
  refine (tab_congr fun i hi => ?_).trans (tab_self c)
  rw [new_row, tab_getD hi, Int.mul_ediv_cancel_left _ (by omega)]
def addL (xs ys : List Int) : List Int := tabL (min xs.length ys.length) fun i => xs.getD i 0 + ys.getD i 0
theorem getD_at {xs : List Int} {i : Nat} (h : i < xs.length) : (vi xs)[i]? = some (.int (xs.getD i 0)) := by
  rw [vi_at h, List.getD_eq_getElem?_getD, List.getElem?_eq_getElem h]
  rfl

/-! ### rows of shuffles -/
def cntL (L : List Int) (m : Nat) : List Int := tabL m fun k => (L.count ((k + 1 : Nat) : Int) : Int)
theorem part_cons (l : Int) (L : List Int) (m i : Nat) (hl : 1 ≤ l) : ∀ k, k ≤ m → part (cntL (l :: L) m) i k = part (cntL L m) i k + (if l ≤ k ∧ ((i + 1 : Nat) : Int) % l = 0 then l else 0)
  | 0, _ => by
    rw [if_neg (by omega)]
    rfl
  | k + 1, h => by
    show part (cntL (l :: L) m) i k + (if (i + 1) % (k + 1) = 0 then ((k + 1 : Nat) : Int) * (cntL (l :: L) m).getD k 0 else 0) = part (cntL L m) i k + (if (i + 1) % (k + 1) = 0 then ((k + 1 : Nat) : Int) * (cntL L m).getD k 0 else 0) + _
    have e1 : (cntL (l :: L) m).getD k 0 = ((l :: L).count ((k + 1 : Nat) : Int) : Int) := tab_getD (by omega)
    have e2 : (cntL L m).getD k 0 = (L.count ((k + 1 : Nat) : Int) : Int) := tab_getD (by omega)
    rw [part_cons l L m i hl k (by omega), e1, e2, List.count_cons]
    by_cases c : l = ((k + 1 : Nat) : Int)
    · rw [if_neg (by omega)]
      have e3 : ((i + 1 : Nat) : Int) % l = 0 ↔ (i + 1) % (k + 1) = 0 := by
        rw [c, ← Int.natCast_emod]
        omega
      rw [show (if (l == ((k + 1 : Nat) : Int)) = true then 1 else 0) = 1 from if_pos (by rw [c]; exact beq_self_eq_true _)]
      by_cases d : (i + 1) % (k + 1) = 0
      · rw [if_pos d, if_pos d, if_pos ⟨by omega, e3.mpr d⟩, show ((L.count ((k + 1 : Nat) : Int) + 1 : Nat) : Int) = (L.count ((k + 1 : Nat) : Int) : Int) + 1 from rfl, Int.mul_add, Int.mul_one, ← c]
        omega
      · rw [if_neg d, if_neg d, if_neg fun z => d (e3.mp z.2)]
    · rw [if_neg (show ¬ ((l == ((k + 1 : Nat) : Int)) = true) by simpa using c)]
      have e4 : (l ≤ (k : Int) ∧ ((i + 1 : Nat) : Int) % l = 0) ↔ (l ≤ ((k + 1 : Nat) : Int) ∧ ((i + 1 : Nat) : Int) % l = 0) := ⟨fun z => ⟨by omega, z.2⟩, fun z => ⟨by omega, z.2⟩⟩
      simp only [e4, Nat.add_zero]
      omega
theorem part_filter (m i : Nat) (hi : i < m) : ∀ {L : List Int}, (∀ l ∈ L, 1 ≤ l) → (L.filter fun l => decide (((i + 1 : Nat) : Int) % l = 0)).sum = part (cntL L m) i (i + 1)
  | [], _ => by
    have : ∀ k, k ≤ m → part (cntL [] m) i k = 0 := by
      intro k
      induction k with
      | zero => intro _; rfl
      | succ k ih =>
        intro h
        have e : (cntL [] m).getD k 0 = 0 := tab_getD (by omega)
        show part (cntL [] m) i k + (if (i + 1) % (k + 1) = 0 then ((k + 1 : Nat) : Int) * (cntL [] m).getD k 0 else 0) = 0
        rw [ih (by omega), e, Int.mul_zero]
        split <;> rfl
    rw [this _ (by omega)]
    rfl
  | l :: L, h => by
    have hl := h l List.mem_cons_self
    rw [part_cons l L m i hl (i + 1) (by omega), ← part_filter m i hi fun x hx => h x (List.mem_cons_of_mem _ hx), List.filter_cons]
    by_cases d : ((i + 1 : Nat) : Int) % l = 0
    · have hle : l ≤ ((i + 1 : Nat) : Int) := Int.le_of_dvd (by omega) (Int.dvd_of_emod_eq_zero d)
      rw [if_pos (decide_eq_true d), if_pos ⟨hle, d⟩, List.sum_cons]
      omega
    · rw [if_neg (by simpa using d), if_neg fun z => d z.2, Int.add_zero]
theorem back_rowL {ds : List Int} (hs : Shf ds) (m : Nat) : up (backL ds m) = rowL (cntL (lensL ds) m) := by
  have rg := rings_of hs
  unfold rowL cntL
  rw [tab_length]
  unfold up backL
  rw [List.map_map]
  refine List.map_congr_left fun i hi => ?_
  have hi := List.mem_range.mp hi
  show (cnt ds (i + 1) : Int) = _
  rw [← back_cnt hs rg (i + 1)]
  exact part_filter m i hi fun l hl => (lens_mem rg hl).1
theorem back_at {ds : List Int} {m i : Nat} (h : i < m) : (up (backL ds m)).getD i 0 = (cnt ds (i + 1) : Int) := by
  unfold up backL
  rw [List.map_map, List.getD_eq_getElem?_getD, List.getElem?_map, List.getElem?_range h]
  rfl
theorem back_length (ds : List Int) (m : Nat) : (up (backL ds m)).length = m := by simp [up, backL]
theorem back_tab (ds : List Int) (m : Nat) : up (backL ds m) = tabL m fun i => (cnt ds (i + 1) : Int) := by
  unfold up backL tabL
  rw [List.map_map]
  rfl
/-! beside -/
theorem orb_bes1 {xs : List Int} (ys : List Int) (hx : Shf xs) {k : Nat} (hk : k < xs.length) : ∀ t, orb (besL xs ys) k t = orb xs k t
  | 0 => rfl
  | t + 1 => by
    show nx (besL xs ys) (orb (besL xs ys) k t) = nx xs (orb xs k t)
    have ho := orb_lt hx hk t
    rw [orb_bes1 ys hx hk t]
    unfold nx
    rw [List.getD_eq_getElem?_getD, bes_at xs ys ho]
    rfl
theorem orb_bes2 (xs : List Int) {ys : List Int} (hy : Shf ys) {k : Nat} (hk : k < ys.length) : ∀ t, orb (besL xs ys) (xs.length + k) t = xs.length + orb ys k t
  | 0 => rfl
  | t + 1 => by
    show nx (besL xs ys) (orb (besL xs ys) (xs.length + k) t) = xs.length + nx ys (orb ys k t)
    have ho := orb_lt hy hk t
    rw [orb_bes2 xs hy hk t]
    have e := nx_get hy ho
    unfold nx at *
    rw [List.getD_eq_getElem?_getD, bes_at' xs ys ho]
    show ((xs.length : Int) + ys.getD (orb ys k t) 0).toNat = _
    rw [e]
    omega
theorem cnt_bes {xs ys : List Int} (hx : Shf xs) (hy : Shf ys) (t : Nat) : cnt (besL xs ys) t = cnt xs t + cnt ys t := by
  unfold cnt
  rw [besL_length, List.range_add, List.filter_append, List.length_append, List.filter_map, List.length_map]
  congr 2
  · refine List.filter_congr fun k hk => ?_
    rw [orb_bes1 ys hx (List.mem_range.mp hk)]
  · refine List.filter_congr fun k hk => ?_
    show decide (orb (besL xs ys) (xs.length + k) t = xs.length + k) = _
    rw [orb_bes2 xs hy (List.mem_range.mp hk)]
    refine decide_eq_decide.mpr ⟨fun h => by omega, fun h => by omega⟩
/-! paired -/
theorem pair_count (m : Nat) (hm : 0 < m) (p q : Nat → Bool) : ∀ n, ((List.range (n * m)).filter fun k => p (k / m) && q (k % m)).length = ((List.range n).filter p).length * ((List.range m).filter q).length
  | 0 => by simp
  | n + 1 => by
    rw [Nat.succ_mul, List.range_add, List.filter_append, List.length_append, pair_count m hm p q n, List.filter_map, List.length_map, List.range_succ, List.filter_append, List.length_append, Nat.add_mul]
    congr 1
    have e : ((List.range m).filter ((fun k => p (k / m) && q (k % m)) ∘ fun x => n * m + x)) = (List.range m).filter fun x => p n && q x := by
      refine List.filter_congr fun x hx => ?_
      have hx := List.mem_range.mp hx
      show (p ((n * m + x) / m) && q ((n * m + x) % m)) = _
      rw [Nat.mul_comm n m, Nat.mul_add_div hm, Nat.div_eq_of_lt hx, Nat.add_zero, Nat.mul_add_mod, Nat.mod_eq_of_lt hx]
    rw [e, List.filter_cons]
    cases hp : p n with
    | true => simp
    | false => simp
theorem pairL_nx {xs ys : List Int} (hx : Shf xs) (hy : Shf ys) {i j : Nat} (hi : i < xs.length) (hj : j < ys.length) : nx (pairL xs ys) (i * ys.length + j) = nx xs i * ys.length + nx ys j := by
  have hy0 := hy.1
  have hlt : i * ys.length + j < xs.length * ys.length := by
    have : (i + 1) * ys.length ≤ xs.length * ys.length := Nat.mul_le_mul_right _ hi
    rw [Nat.succ_mul] at this
    omega
  unfold nx
  rw [pairL_getD hlt, Nat.mul_comm i, Nat.mul_add_div hy0, Nat.div_eq_of_lt hj, Nat.add_zero, Nat.mul_add_mod, Nat.mod_eq_of_lt hj, nx_get hx hi, nx_get hy hj, ← Int.natCast_mul, ← Int.natCast_add, Int.toNat_natCast, Int.toNat_natCast, Int.toNat_natCast]
theorem orb_pair {xs ys : List Int} (hx : Shf xs) (hy : Shf ys) {i j : Nat} (hi : i < xs.length) (hj : j < ys.length) : ∀ t, orb (pairL xs ys) (i * ys.length + j) t = orb xs i t * ys.length + orb ys j t
  | 0 => rfl
  | t + 1 => by
    show nx (pairL xs ys) (orb (pairL xs ys) (i * ys.length + j) t) = nx xs (orb xs i t) * ys.length + nx ys (orb ys j t)
    rw [orb_pair hx hy hi hj t, pairL_nx hx hy (orb_lt hx hi t) (orb_lt hy hj t)]
theorem cnt_pair {xs ys : List Int} (hx : Shf xs) (hy : Shf ys) (t : Nat) : cnt (pairL xs ys) t = cnt xs t * cnt ys t := by
  have hy0 := hy.1
  unfold cnt
  rw [pairL_length, ← pair_count ys.length hy0 (fun k => decide (orb xs k t = k)) (fun k => decide (orb ys k t = k))]
  congr 1
  refine List.filter_congr fun k hk => ?_
  have hk := List.mem_range.mp hk
  have hd : k / ys.length < xs.length := Nat.div_lt_of_lt_mul (by rw [Nat.mul_comm]; exact hk)
  have hm : k % ys.length < ys.length := Nat.mod_lt _ hy0
  have e : k = k / ys.length * ys.length + k % ys.length := by
    rw [Nat.mul_comm]
    exact (Nat.div_add_mod k ys.length).symm
  have h1 := orb_pair hx hy hd hm t
  have o1 := orb_lt hy hm t
  rw [← e] at h1
  rw [h1, ← Bool.decide_and]
  refine decide_eq_decide.mpr ⟨fun h => ?_, fun h => ?_⟩
  · have a1 : (orb xs (k / ys.length) t * ys.length + orb ys (k % ys.length) t) / ys.length = k / ys.length := by rw [h]
    have a2 : (orb xs (k / ys.length) t * ys.length + orb ys (k % ys.length) t) % ys.length = k % ys.length := by rw [h]
    rw [Nat.mul_comm, Nat.mul_add_div hy0, Nat.div_eq_of_lt o1, Nat.add_zero] at a1
    rw [Nat.mul_comm, Nat.mul_add_mod, Nat.mod_eq_of_lt o1] at a2
    exact ⟨a1, a2⟩
  · rw [h.1, h.2]
    exact e.symm
/-! turned -/
theorem turn_shf {ds : List Int} (hs : Shf ds) (s : Int) : Shf (turnL ds s) := by
  refine ⟨by rw [turn_length]; exact hs.1, by rw [turn_length]; exact hs.2.1, ?_⟩
  rw [turn_length]
  refine perm_iota ?_ ?_ (turn_length ds s)
  · show List.Pairwise _ _
    unfold turnL
    refine List.pairwise_map.mpr (List.Pairwise.imp_of_mem ?_ List.nodup_range)
    intro i j hi hj hne e
    have hi := List.mem_range.mp hi
    have hj := List.mem_range.mp hj
    have e2 : tn ds s i = tn ds s j := by omega
    -- both lie on one ring
    have back : ∀ k, k < ds.length → tn ds (-s) (tn ds s k) = k := by
      intro k hk
      obtain ⟨r, j0, ir, hj0, rfl, hp⟩ := per_ring hs hk
      have p := ir.pos
      have m0 := Int.emod_nonneg ((j0 : Int) + s) (show (r.length : Int) ≠ 0 by omega)
      have m1 : ((j0 : Int) + s) % (r.length : Int) < r.length := Int.emod_lt_of_pos _ (by omega)
      rw [← tn_ring ir s hj0, ← tn_ring ir (-s) (show (((j0 : Int) + s) % (r.length : Int)).toNat < r.length by omega), Int.toNat_of_nonneg m0, Int.emod_add_emod, show (j0 : Int) + s + -s = j0 by omega, Int.emod_eq_of_lt (by omega) (by omega), Int.toNat_natCast]
    exact hne (by rw [← back i hi, e2, back j hj])
  · intro x hx
    obtain ⟨i, hi, rfl⟩ := List.mem_map.mp hx
    have := tn_lt hs s (List.mem_range.mp hi)
    omega
theorem orb_turn {ds : List Int} (hs : Shf ds) (s : Nat) {k : Nat} (hk : k < ds.length) : ∀ t, orb (turnL ds (s : Int)) k t = orb ds k (s * t)
  | 0 => rfl
  | t + 1 => by
    show nx (turnL ds (s : Int)) (orb (turnL ds (s : Int)) k t) = _
    have ho := orb_lt hs hk (s * t)
    rw [orb_turn hs s hk t, Nat.mul_succ, orb_add]
    unfold nx turnL
    rw [List.getD_eq_getElem?_getD, List.getElem?_map, List.getElem?_range ho]
    show ((tn ds (s : Int) (orb ds k (s * t)) : Nat) : Int).toNat = _
    rw [Int.toNat_natCast, tn_nat hs s ho]
theorem cnt_turn {ds : List Int} (hs : Shf ds) (s t : Nat) : cnt (turnL ds (s : Int)) t = cnt ds (s * t) := by
  unfold cnt
  rw [turn_length]
  congr 1
  refine List.filter_congr fun k hk => ?_
  rw [orb_turn hs s (List.mem_range.mp hk)]
/-! all back -/
theorem per_mem {ds : List Int} (hs : Shf ds) {i : Nat} (hi : i < ds.length) : (per ds i : Int) ∈ lensL ds := by
  have rg := rings_of hs
  obtain ⟨r, hr, him⟩ := List.mem_flatten.mp (rg.all i hi)
  obtain ⟨j, hj, rfl⟩ := IsRing.mem (ds := ds) him
  rw [(rg.ring r hr).per hj]
  exact (lens_perm ds).mem_iff.mp (List.mem_map.mpr ⟨r.length, List.mem_map.mpr ⟨r, hr, rfl⟩, rfl⟩)
theorem cnt_all {ds : List Int} (hs : Shf ds) (t : Nat) : cnt ds t = ds.length ↔ ∀ l ∈ lensL ds, (t : Int) % l = 0 := by
  have rg := rings_of hs
  constructor
  · intro h l hl
    obtain ⟨k, hk, rfl⟩ := List.mem_map.mp ((lens_perm ds).mem_iff.mpr hl)
    obtain ⟨r, hr, rfl⟩ := List.mem_map.mp hk
    have ir := rg.ring r hr
    have hall : ((List.range ds.length).filter fun k => decide (orb ds k t = k)) = List.range ds.length := by
      refine (List.filter_sublist).eq_of_length ?_
      rw [List.length_range]
      exact h
    have h0 : 0 < r.length := ir.pos
    have hx : r.getD 0 0 < ds.length := ir.lt _ (by rw [getD_of h0]; exact List.getElem_mem h0)
    have hm : r.getD 0 0 ∈ (List.range ds.length).filter fun k => decide (orb ds k t = k) := by
      rw [hall]
      exact List.mem_range.mpr hx
    have := (ir.back h0 t).mp (of_decide_eq_true (List.mem_filter.mp hm).2)
    rw [← Int.natCast_emod]
    omega
  · intro h
    unfold cnt
    rw [List.filter_eq_self.mpr, List.length_range]
    intro k hk
    have hk := List.mem_range.mp hk
    refine decide_eq_true ((orb_back hs hk t).mpr ?_)
    have := h _ (per_mem hs hk)
    rw [← Int.natCast_emod] at this
    omega
def Whole (ds : List Int) (w : Nat) : Prop := 0 < w ∧ ∀ t : Nat, t % w = 0 ↔ ∀ l ∈ lensL ds, (t : Int) % l = 0
theorem whole_per {ds : List Int} (hs : Shf ds) {w : Nat} (h : Whole ds w) {i : Nat} (hi : i < ds.length) : (w : Int) % (per ds i : Int) = 0 := (h.2 w).mp (Nat.mod_self w) _ (per_mem hs hi)
theorem turn_whole {ds : List Int} (hs : Shf ds) {w : Nat} (h : Whole ds w) : turnL ds (w : Int) = iota ds.length := by
  unfold turnL iota
  refine List.map_congr_left fun i hi => ?_
  have := whole_per hs h (List.mem_range.mp hi)
  unfold tn
  rw [this]
  rfl
theorem turn_less {ds : List Int} (hs : Shf ds) {w : Nat} (h : Whole ds w) : turnL ds (1 - (w : Int)) = ds := by
  refine (turn_end' rfl fun i hi => ?_).symm
  have h1 := whole_per hs h hi
  have h2 : (1 - (w : Int)) % (per ds i : Int) = 1 % (per ds i : Int) := by
    rw [Int.sub_emod, h1, Int.sub_zero, Int.emod_emod]
  unfold tn
  rw [h2, ← show (((1 % per ds i : Nat)) : Int) = (1 : Int) % (per ds i : Int) from Int.natCast_emod 1 _, Int.toNat_natCast, orb_mod hs hi, nx_get hs hi]
  rfl

/-! ### rings side by side -/
def blk (s n : Nat) : List Int := (List.range (n - 1)).map (fun j : Nat => ((s : Int) + (1 + (j : Int)))) ++ [(s : Int)]
def addR (n : Nat) (acc : List Int) : Nat → List Int
  | 0 => acc
  | t + 1 => addR n acc t ++ blk (addR n acc t).length n
def dueL (ns : List Int) : Nat → List Int
  | 0 => []
  | i + 1 => addR (i + 1) (dueL ns i) (ns.getD i 0).toNat
def ths (ns : List Int) : Nat → Int
  | 0 => 0
  | i + 1 => ths ns i + (1 + (i : Int)) * ns.getD i 0
theorem blk_length {s n : Nat} (h : 0 < n) : (blk s n).length = n := by
  unfold blk
  rw [List.length_append, List.length_map, List.length_range, List.length_singleton]
  omega
theorem addR_length {n : Nat} (h : 0 < n) (acc : List Int) : ∀ t, (addR n acc t).length = acc.length + n * t
  | 0 => rfl
  | t + 1 => by
    show (addR n acc t ++ blk (addR n acc t).length n).length = _
    rw [List.length_append, blk_length h, addR_length h acc t, Nat.mul_succ, Nat.add_assoc]
theorem dueL_length {ns : List Int} (hn : ∀ n ∈ ns, 0 ≤ n) : ∀ i, ((dueL ns i).length : Int) = ths ns i
  | 0 => rfl
  | i + 1 => by
    have ih := dueL_length hn i
    show ((addR (i + 1) (dueL ns i) (ns.getD i 0).toNat).length : Int) = ths ns i + (1 + (i : Int)) * ns.getD i 0
    rw [addR_length (Nat.succ_pos i), Int.natCast_add, ih, Int.natCast_mul]
    have h0 : 0 ≤ ns.getD i 0 := by
      rw [List.getD_eq_getElem?_getD]
      cases g : ns[i]? with
      | none => exact Int.le_refl 0
      | some m => exact hn m (List.mem_of_getElem? g)
    rw [Int.toNat_of_nonneg h0, show ((i + 1 : Nat) : Int) = 1 + (i : Int) by omega]
theorem ths_mono {ns : List Int} (hn : ∀ n ∈ ns, 0 ≤ n) {i j : Nat} (h : i ≤ j) : ths ns i ≤ ths ns j := by
  induction j with
  | zero =>
    obtain rfl : i = 0 := by omega
    exact Int.le_refl _
  | succ j ih =>
    by_cases e : i = j + 1
    · rw [e]
      exact Int.le_refl _
    · have h1 := ih (by omega)
      have h0 : 0 ≤ ns.getD j 0 := by
        rw [List.getD_eq_getElem?_getD]
        cases g : ns[j]? with
        | none => exact Int.le_refl 0
        | some m => exact hn m (List.mem_of_getElem? g)
      have h2 : 0 ≤ (1 + (j : Int)) * ns.getD j 0 := Int.mul_nonneg (by omega) h0
      show ths ns i ≤ ths ns j + (1 + (j : Int)) * ns.getD j 0
      omega
theorem count_le {ns : List Int} (hn : ∀ n ∈ ns, 0 ≤ n) {i : Nat} {m : Int} (h : ns[i]? = some m) (ht : ths ns ns.length ≤ 300) : 0 ≤ m ∧ (1 + (i : Int)) * m ≤ 300 ∧ m ≤ 300 := by
  have hm := hn m (List.mem_of_getElem? h)
  have hi := (List.getElem?_eq_some_iff.mp h).1
  have h1 := ths_mono hn (show i + 1 ≤ ns.length from hi)
  have h2 : 0 ≤ ths ns i := by
    have := ths_mono hn (Nat.zero_le i)
    exact this
  have e : ths ns (i + 1) = ths ns i + (1 + (i : Int)) * m := by
    show ths ns i + (1 + (i : Int)) * ns.getD i 0 = _
    rw [List.getD_eq_getElem?_getD, h]
    rfl
  have h3 : m ≤ (1 + (i : Int)) * m := by
    have := Int.mul_le_mul_of_nonneg_right (show (1 : Int) ≤ 1 + (i : Int) by omega) hm
    omega
  omega
theorem addR_le {ns : List Int} (hn : ∀ n ∈ ns, 0 ≤ n) {i : Nat} {m : Int} (h : ns[i]? = some m) (ht : ths ns ns.length ≤ 300) {t : Nat} (hm : (t : Int) < m) : (addR (i + 1) (dueL ns i) t).length ≤ 300 := by
  have a1 : (addR (i + 1) (dueL ns i) t).length = (dueL ns i).length + (i + 1) * t := addR_length (Nat.succ_pos i) (dueL ns i) t
  have a2 : (addR (i + 1) (dueL ns i) m.toNat).length = (dueL ns i).length + (i + 1) * m.toNat := addR_length (Nat.succ_pos i) (dueL ns i) m.toNat
  have a3 := dueL_length hn (i + 1)
  have a4 := ths_mono hn (show i + 1 ≤ ns.length from (List.getElem?_eq_some_iff.mp h).1)
  have a5 : dueL ns (i + 1) = addR (i + 1) (dueL ns i) m.toNat := by
    show addR (i + 1) (dueL ns i) (ns.getD i 0).toNat = _
    rw [List.getD_eq_getElem?_getD, h]
    rfl
  rw [a5] at a3
  have a6 : (i + 1) * t ≤ (i + 1) * m.toNat := Nat.mul_le_mul_left _ (by omega)
  omega
theorem sum_range (f : Nat → Int) : ∀ n, ((List.range n).map f).sum = (match n with | 0 => 0 | k + 1 => ((List.range k).map f).sum + f k)
  | 0 => rfl
  | k + 1 => by
    rw [List.range_succ, List.map_append, List.sum_append]
    simp
theorem ths_sum (ns : List Int) : ∀ n, ((List.range n).map fun i : Nat => (1 + (i : Int)) * ns.getD i 0).sum = ths ns n
  | 0 => rfl
  | n + 1 => by
    rw [sum_range]
    show ((List.range n).map fun i : Nat => (1 + (i : Int)) * ns.getD i 0).sum + _ = _
    rw [ths_sum ns n]
    rfl

theorem getD_nn {ns : List Int} (hn : ∀ n ∈ ns, 0 ≤ n) (i : Nat) : 0 ≤ ns.getD i 0 := by
  rw [List.getD_eq_getElem?_getD]
  cases g : ns[i]? with
  | none => exact Int.le_refl 0
  | some m => exact hn m (List.mem_of_getElem? g)
theorem ths_set {ns : List Int} {j : Nat} (v : Int) (h : j < ns.length) : ∀ i, ths (ns.set j v) i = ths ns i + (if j < i then (1 + (j : Int)) * (v - ns.getD j 0) else 0)
  | 0 => by simp [ths]
  | i + 1 => by
    have ih := ths_set v h i
    show ths (ns.set j v) i + (1 + (i : Int)) * (ns.set j v).getD i 0 = ths ns i + (1 + (i : Int)) * ns.getD i 0 + _
    rw [ih]
    by_cases e : i = j
    · subst e
      have e1 : (ns.set i v).getD i 0 = v := by simp [List.getD_eq_getElem?_getD, h]
      rw [e1, if_neg (Nat.lt_irrefl _), if_pos (Nat.lt_succ_self _), Int.mul_sub]
      omega
    · have e1 : (ns.set j v).getD i 0 = ns.getD i 0 := by
        rw [List.getD_eq_getElem?_getD, List.getD_eq_getElem?_getD, List.getElem?_set_ne (Ne.symm e)]
      rw [e1]
      by_cases l : j < i
      · rw [if_pos l, if_pos (by omega)]
        omega
      · rw [if_neg l, if_neg (by omega)]
        omega
theorem ths_zero : ∀ {ns : List Int} (i : Nat), (∀ k, k < i → ns.getD k 0 = 0) → ths ns i = 0
  | ns, 0, _ => rfl
  | ns, i + 1, h => by
    have ih := ths_zero (ns := ns) i fun k hk => h k (by omega)
    show ths ns i + (1 + (i : Int)) * ns.getD i 0 = 0
    rw [ih, h i (by omega), Int.mul_zero]
    rfl
theorem ths_le {ns : List Int} (hn : ∀ n ∈ ns, 0 ≤ n) (i k : Nat) (h : i < k) : (1 + (i : Int)) * ns.getD i 0 ≤ ths ns k := by
  have h1 := ths_mono hn (show i + 1 ≤ k from h)
  have h2 := ths_mono hn (Nat.zero_le i)
  have e : ths ns (i + 1) = ths ns i + (1 + (i : Int)) * ns.getD i 0 := rfl
  have e0 : ths ns 0 = 0 := rfl
  omega
theorem ths_pos {ns : List Int} (hn : ∀ n ∈ ns, 0 ≤ n) (h : ns ≠ List.replicate ns.length 0) : 1 ≤ ths ns ns.length := by
  refine Classical.byContradiction fun c => h ?_
  refine List.eq_replicate_iff.mpr ⟨rfl, fun m hm => ?_⟩
  obtain ⟨i, hi, rfl⟩ := List.getElem_of_mem hm
  have h0 := hn _ hm
  have h1 := ths_le hn i ns.length hi
  rw [List.getD_eq_getElem?_getD, List.getElem?_eq_getElem hi] at h1
  have h2 : ns[i] ≤ (1 + (i : Int)) * ns[i] := by
    have := Int.mul_le_mul_of_nonneg_right (show (1 : Int) ≤ 1 + (i : Int) by omega) h0
    omega
  have h3 : (1 + (i : Int)) * ns[i] ≤ ths ns ns.length := h1
  omega
theorem ths_ext {ns ms : List Int} : ∀ i, (∀ k, k < i → ns.getD k 0 = ms.getD k 0) → ths ns i = ths ms i
  | 0, _ => rfl
  | i + 1, h => by
    have ih := ths_ext i fun k hk => h k (by omega)
    show ths ns i + (1 + (i : Int)) * ns.getD i 0 = ths ms i + (1 + (i : Int)) * ms.getD i 0
    rw [ih, h i (by omega)]
theorem due_ext {ns ms : List Int} : ∀ i, (∀ k, k < i → ns.getD k 0 = ms.getD k 0) → dueL ns i = dueL ms i
  | 0, _ => rfl
  | i + 1, h => by
    have ih := due_ext i fun k hk => h k (by omega)
    show addR (i + 1) (dueL ns i) (ns.getD i 0).toNat = addR (i + 1) (dueL ms i) (ms.getD i 0).toNat
    rw [ih, h i (by omega)]
theorem ths_more {ns : List Int} {i : Nat} : ∀ k, (∀ j, i ≤ j → ns.getD j 0 = 0) → ths ns (i + k) = ths ns i
  | 0, _ => rfl
  | k + 1, h => by
    show ths ns (i + k) + (1 + ((i + k : Nat) : Int)) * ns.getD (i + k) 0 = ths ns i
    rw [ths_more k h, h (i + k) (by omega), Int.mul_zero, Int.add_zero]
theorem due_more {ns : List Int} {i : Nat} : ∀ k, (∀ j, i ≤ j → ns.getD j 0 = 0) → dueL ns (i + k) = dueL ns i
  | 0, _ => rfl
  | k + 1, h => by
    show addR (i + k + 1) (dueL ns (i + k)) (ns.getD (i + k) 0).toNat = dueL ns i
    rw [due_more k h, h (i + k) (by omega)]
    rfl
/-- what the law's rings are -/
def RingsOk (ns : List Int) : Prop := 0 < ns.length ∧ ns.length ≤ 300 ∧ (∀ n ∈ ns, 0 ≤ n) ∧ 1 ≤ ths ns ns.length ∧ ths ns ns.length ≤ 300
theorem getD_app (ns : List Int) (z : Nat) (k : Nat) : (ns ++ List.replicate z 0).getD k 0 = ns.getD k 0 := by
  rw [List.getD_eq_getElem?_getD, List.getD_eq_getElem?_getD, List.getElem?_append]
  split
  · rfl
  · rename_i h
    rw [List.getElem?_eq_none (show ns.length ≤ k by omega), List.getElem?_replicate]
    split <;> rfl
theorem getN_out (ns : List Int) {k : Nat} (h : ns.length ≤ k) : ns.getD k 0 = 0 := by
  rw [List.getD_eq_getElem?_getD, List.getElem?_eq_none h]
  rfl
theorem pad_ths (ns : List Int) (z : Nat) : ths (ns ++ List.replicate z 0) (ns ++ List.replicate z 0).length = ths ns ns.length := by
  rw [List.length_append, List.length_replicate, ths_ext (ns := ns ++ List.replicate z 0) (ms := ns) _ fun k _ => getD_app ns z k]
  exact ths_more z fun j hj => getN_out ns hj
theorem pad_due (ns : List Int) (z : Nat) : dueL (ns ++ List.replicate z 0) (ns ++ List.replicate z 0).length = dueL ns ns.length := by
  rw [List.length_append, List.length_replicate, due_ext (ns := ns ++ List.replicate z 0) (ms := ns) _ fun k _ => getD_app ns z k]
  exact due_more z fun j hj => getN_out ns hj
theorem pad_ok {ns : List Int} (h : RingsOk ns) {z : Nat} (hz : ns.length + z ≤ 300) : RingsOk (ns ++ List.replicate z 0) := by
  obtain ⟨h1, h2, h3, h4, h5⟩ := h
  refine ⟨by rw [List.length_append]; omega, by rw [List.length_append, List.length_replicate]; exact hz, fun n m => ?_, by rw [pad_ths]; exact h4, by rw [pad_ths]; exact h5⟩
  rcases List.mem_append.mp m with m | m
  · exact h3 n m
  · rw [(List.mem_replicate.mp m).2]
    exact Int.le_refl 0
theorem take_pad {ns : List Int} (h : ns.length ≤ 300) : (ns ++ [0, 0]).take 300 = ns ++ List.replicate (min 2 (300 - ns.length)) 0 := by
  rw [List.take_append, List.take_of_length_le h]
  congr 1
  by_cases h1 : 300 - ns.length = 0
  · rw [h1]
    rfl
  · by_cases h2 : 300 - ns.length = 1
    · rw [h2]
      rfl
    · obtain ⟨k, hk⟩ : ∃ k, 300 - ns.length = k + 2 := ⟨300 - ns.length - 2, by omega⟩
      rw [hk, show min 2 (k + 2) = 2 by omega, List.take_of_length_le (by simp)]
      rfl
def oneRing (k : Nat) : List Int := List.replicate k 0 ++ [1]
theorem oneRing_ths (k : Nat) : ths (oneRing k) (oneRing k).length = 1 + (k : Int) := by
  have e : (oneRing k).length = k + 1 := by simp [oneRing]
  rw [e]
  show ths (oneRing k) k + (1 + (k : Int)) * (oneRing k).getD k 0 = _
  have e1 : (oneRing k).getD k 0 = 1 := by simp [oneRing, List.getD_eq_getElem?_getD]
  have e2 : ths (oneRing k) k = 0 := ths_zero k fun j hj => by
    rw [List.getD_eq_getElem?_getD]
    unfold oneRing
    rw [List.getElem?_append_left (by simpa using hj), List.getElem?_replicate, if_pos hj]
    rfl
  rw [e1, e2]
  omega
theorem oneRing_ok {k : Nat} (h : k < 300) : RingsOk (oneRing k) := by
  have e := oneRing_ths k
  refine ⟨by simp [oneRing], by simp [oneRing]; omega, fun n m => ?_, by omega, by omega⟩
  rcases List.mem_append.mp m with m | m
  · rw [(List.mem_replicate.mp m).2]
    exact Int.le_refl 0
  · rw [List.mem_singleton.mp m]
    decide
theorem blk_wide {s n : Nat} (hs : s ≤ 300) (hn : n ≤ 300) : ∀ m ∈ blk s n, m.natAbs < 2 ^ 20 := fun m h => by
  unfold blk at h
  rcases List.mem_append.mp h with h | h
  · obtain ⟨j, hj, rfl⟩ := List.mem_map.mp h
    have := List.mem_range.mp hj
    omega
  · rw [List.mem_singleton.mp h]
    omega
theorem addR_wide {n : Nat} (hn : n ≤ 300) {acc : List Int} (ha : ∀ m ∈ acc, m.natAbs < 2 ^ 20) : ∀ t, (addR n acc t).length ≤ 300 → ∀ m ∈ addR n acc t, m.natAbs < 2 ^ 20
  | 0, _, m, h => ha m h
  | t + 1, hl, m, h => by
    have hl' : (addR n acc t ++ blk (addR n acc t).length n).length ≤ 300 := hl
    rw [List.length_append] at hl'
    rcases List.mem_append.mp (show m ∈ addR n acc t ++ blk (addR n acc t).length n from h) with h | h
    · exact addR_wide hn ha t (by omega) m h
    · exact blk_wide (by omega) hn m h
theorem due_wide {ns : List Int} (hn : ∀ n ∈ ns, 0 ≤ n) : ∀ i, i ≤ 300 → ths ns i ≤ 300 → ∀ m ∈ dueL ns i, m.natAbs < 2 ^ 20
  | 0, _, _, m, h => nomatch h
  | i + 1, hi, ht, m, h => by
    have h1 := ths_mono hn (show i ≤ i + 1 by omega)
    refine addR_wide hi (due_wide hn i (by omega) (by omega)) _ ?_ m h
    have := dueL_length hn (i + 1)
    have e : dueL ns (i + 1) = addR (i + 1) (dueL ns i) (ns.getD i 0).toNat := rfl
    rw [e] at this
    omega
theorem due_ok {ns : List Int} (h : RingsOk ns) : wide 1900 (dueL ns ns.length) ∧ (dueL ns ns.length).length ≤ 4000 := by
  obtain ⟨h1, h2, h3, h4, h5⟩ := h
  refine ⟨(wide_lt (k := 20) (by decide) (due_wide h3 _ h2 h5)).mono (by decide), ?_⟩
  have := dueL_length h3 ns.length
  omega
theorem blk_perm (s n : Nat) (hn : 0 < n) : (blk s n).Perm ((List.range n).map fun j : Nat => ((s : Int) + (j : Int))) := by
  obtain ⟨m, rfl⟩ : ∃ m, n = m + 1 := ⟨n - 1, by omega⟩
  unfold blk
  rw [List.range_succ_eq_map, List.map_cons, List.map_map, Nat.add_sub_cancel]
  refine (List.perm_append_singleton _ _).trans ?_
  refine List.Perm.of_eq ?_
  show (s : Int) :: _ = ((s : Int) + ((0 : Nat) : Int)) :: _
  rw [show (s : Int) + ((0 : Nat) : Int) = s by omega]
  refine congrArg (List.cons (s : Int)) (List.map_congr_left fun j _ => ?_)
  show (s : Int) + (1 + (j : Int)) = (s : Int) + ((j + 1 : Nat) : Int)
  omega
theorem iota_more (s n : Nat) : iota (s + n) = iota s ++ (List.range n).map fun j : Nat => ((s : Int) + (j : Int)) := by
  unfold iota
  rw [List.range_add, List.map_append, List.map_map]
  congr 1
theorem perm_blk {acc : List Int} {n : Nat} (hn : 0 < n) (h : acc.Perm (iota acc.length)) : (acc ++ blk acc.length n).Perm (iota (acc ++ blk acc.length n).length) := by
  rw [List.length_append, blk_length hn, iota_more]
  exact h.append (blk_perm _ _ hn)
theorem perm_addR {n : Nat} (hn : 0 < n) {acc : List Int} (h : acc.Perm (iota acc.length)) : ∀ t, (addR n acc t).Perm (iota (addR n acc t).length)
  | 0 => h
  | t + 1 => perm_blk hn (perm_addR hn h t)
theorem perm_due (ns : List Int) : ∀ i, (dueL ns i).Perm (iota (dueL ns i).length)
  | 0 => List.Perm.refl _
  | i + 1 => perm_addR (Nat.succ_pos i) (perm_due ns i) _
theorem due_shf {ns : List Int} (hn : ∀ n ∈ ns, 0 ≤ n) (t1 : 1 ≤ ths ns ns.length) (t2 : ths ns ns.length ≤ 300) : Shf (dueL ns ns.length) := by
  have e := dueL_length hn ns.length
  exact ⟨by omega, by omega, perm_due ns _⟩

/-! ### lead -/
def LInv (S T : List Nat) (n : Nat) (F : List Int) (m : Nat) : Prop := F.length = n ∧ ∀ (t x y : Nat), t < m → S[t]? = some x → T[t]? = some y → F[x]? = some (y : Int)
theorem LInv.zero (S T : List Nat) (n : Nat) : LInv S T n (List.replicate n 0) 0 := ⟨List.length_replicate, fun t x y h => absurd h (Nat.not_lt_zero t)⟩
theorem LInv.step {S T : List Nat} {n m x y : Nat} {F : List Int} (h : LInv S T n F m) (nd : S.Nodup) (hx : S[m]? = some x) (hy : T[m]? = some y) (lt : x < n) : LInv S T n (F.set x (y : Int)) (m + 1) := by
  refine ⟨by rw [List.length_set]; exact h.1, fun t a b ht ha hb => ?_⟩
  by_cases c : t = m
  · subst c
    rw [hx] at ha
    rw [hy] at hb
    cases ha
    cases hb
    rw [List.getElem?_set_self (by rw [h.1]; exact lt)]
  · have ne : x ≠ a := fun z => by
      subst z
      have := (List.getElem?_inj (List.getElem?_eq_some_iff.mp ha).1 nd).mp (ha.trans hx.symm)
      exact c this
    rw [List.getElem?_set_ne ne]
    exact h.2 t a b (by omega) ha hb
theorem flat_at : ∀ {R : List (List Nat)} {i j x : Nat} {r : List Nat}, R[i]? = some r → r[j]? = some x → R.flatten[(R.take i).flatten.length + j]? = some x
  | [], i, j, x, r, h, _ => by cases h
  | a :: R, 0, j, x, r, h, g => by
    cases h
    rw [List.take_zero, List.flatten_nil, List.length_nil, Nat.zero_add, List.flatten_cons, List.getElem?_append_left (List.getElem?_eq_some_iff.mp g).1]
    exact g
  | a :: R, i + 1, j, x, r, h, g => by
    rw [List.take_succ_cons, List.flatten_cons, List.flatten_cons, List.length_append, List.getElem?_append_right (by omega)]
    rw [show a.length + (R.take i).flatten.length + j - a.length = (R.take i).flatten.length + j by omega]
    exact flat_at (R := R) h g
theorem off_eq : ∀ {R S : List (List Nat)} (_ : R.map List.length = S.map List.length) (i : Nat), (R.take i).flatten.length = (S.take i).flatten.length
  | [], [], _, i => rfl
  | [], _ :: _, h, _ => by cases h
  | _ :: _, [], h, _ => by cases h
  | a :: R, b :: S, h, 0 => rfl
  | a :: R, b :: S, h, i + 1 => by
    rw [List.map_cons, List.map_cons] at h
    injection h with h1 h2
    rw [List.take_succ_cons, List.take_succ_cons, List.flatten_cons, List.flatten_cons, List.length_append, List.length_append, h1, off_eq h2 i]
theorem off_succ {R : List (List Nat)} {i : Nat} {r : List Nat} (h : R[i]? = some r) : (R.take (i + 1)).flatten.length = (R.take i).flatten.length + r.length := by
  rw [List.take_succ, h]
  show (R.take i ++ [r]).flatten.length = _
  rw [List.flatten_append, List.length_append, List.flatten_singleton]
def Led (ds es F : List Int) : Prop := Shf F ∧ F.length = ds.length ∧ ∀ x, x < ds.length → nx es (nx F x) = nx F (nx ds x)
theorem iota_up (n : Nat) : iota n = up (List.range n) := rfl
theorem up_perm {l m : List Nat} (h : l.Perm m) : (up l).Perm (up m) := h.map _
theorem shf_of {n : Nat} (n0 : 0 < n) (n1 : n ≤ 300) {S T : List Nat} (pS : S.Perm (List.range n)) (pT : T.Perm (List.range n)) {F : List Int} (h : LInv S T n F S.length) : Shf F := by
  have lS : S.length = n := by rw [pS.length_eq, List.length_range]
  have lT : T.length = n := by rw [pT.length_eq, List.length_range]
  obtain ⟨h1, h2⟩ := h
  have lk : (up S).map (look F) = up T := by
    refine List.ext_getElem? fun t => ?_
    unfold up
    rw [List.map_map, List.getElem?_map, List.getElem?_map]
    by_cases ht : t < n
    · have a : S[t]? = some (S[t]'(by omega)) := List.getElem?_eq_getElem _
      have b : T[t]? = some (T[t]'(by omega)) := List.getElem?_eq_getElem _
      have c := h2 t _ _ (by omega) a b
      rw [a, b]
      show some (look F ((S[t]'(by omega) : Nat) : Int)) = some _
      unfold look
      rw [Int.toNat_natCast, List.getD_eq_getElem?_getD, c]
      rfl
    · rw [List.getElem?_eq_none (by omega), List.getElem?_eq_none (by omega)]
      rfl
  refine ⟨by rw [h1]; exact n0, by rw [h1]; exact n1, ?_⟩
  rw [h1]
  have e1 : F = (iota n).map (look F) := (look_iota h1).symm
  have e2 : ((iota n).map (look F)).Perm ((up S).map (look F)) := ((up_perm pS).map (look F)).symm
  rw [lk] at e2
  rw [e1]
  exact e2.trans (up_perm pT)
theorem led_of {ds es : List Int} (hd : Shf ds) (he : Shf es) (hl : es.length = ds.length) {R S : List (List Nat)} (hR : R.Perm (ringsL ds ds.length)) (hS : S.Perm (ringsL es es.length)) (hm : R.map List.length = S.map List.length) {F : List Int} (h : LInv R.flatten S.flatten ds.length F R.flatten.length) : Led ds es F := by
  have rd := rings_of hd
  have re := rings_of he
  have pR : R.flatten.Perm (List.range ds.length) := hR.flatten.trans (rd.perm hd)
  have pS : S.flatten.Perm (List.range ds.length) := by
    rw [← hl]
    exact hS.flatten.trans (re.perm he)
  have lR : R.flatten.length = ds.length := by rw [pR.length_eq, List.length_range]
  have lS : S.flatten.length = ds.length := by rw [pS.length_eq, List.length_range]
  obtain ⟨h1, h2⟩ := h
  have at' : ∀ {t x y : Nat}, R.flatten[t]? = some x → S.flatten[t]? = some y → F[x]? = some (y : Int) := fun {t x y} a b => h2 t x y (List.getElem?_eq_some_iff.mp a).1 a b
  have sh : Shf F := shf_of hd.1 hd.2.1 pR pS ⟨h1, h2⟩
  refine ⟨sh, h1, fun x hx => ?_⟩
  have hx' : x ∈ R.flatten := pR.mem_iff.mpr (List.mem_range.mpr hx)
  obtain ⟨r, hr, hxr⟩ := List.mem_flatten.mp hx'
  obtain ⟨i, hi, ei⟩ := List.getElem_of_mem hr
  have gi : R[i]? = some r := by rw [List.getElem?_eq_getElem hi, ei]
  have hlen : R.length = S.length := by
    have := congrArg List.length hm
    rw [List.length_map, List.length_map] at this
    exact this
  have gs : S[i]? = some (S[i]'(by omega)) := List.getElem?_eq_getElem _
  have sl : (S[i]'(by omega)).length = r.length := by
    have := congrArg (fun l => l[i]?) hm
    rw [List.getElem?_map, List.getElem?_map, gi, gs] at this
    injection this with this
    exact this.symm
  have hs : S[i]'(by omega) ∈ S := List.getElem_mem _
  generalize S[i]'(by omega) = s at gs sl hs
  have ir := rd.ring r (hR.mem_iff.mp hr)
  have is := re.ring s (hS.mem_iff.mp hs)
  obtain ⟨j, hj, ej⟩ := List.getElem_of_mem hxr
  have key : ∀ k, k < r.length → nx F (r.getD k 0) = s.getD k 0 := fun k hk => by
    have a := flat_at gi (List.getElem?_eq_getElem hk)
    have b := flat_at gs (List.getElem?_eq_getElem (show k < s.length by omega))
    rw [← off_eq hm i] at b
    have c := at' a b
    unfold nx
    rw [getD_of hk, getD_of (show k < s.length by omega), List.getD_eq_getElem?_getD, c]
    rfl
  have ex : x = r.getD j 0 := by rw [getD_of hj, ej]
  rw [ex, ir.nxt j hj, key j hj, key _ (Nat.mod_lt _ ir.pos), ← sl]
  exact is.nxt j (by omega)
theorem lens_of {ds : List Int} {R : List (List Nat)} (hR : R.Perm (ringsL ds ds.length)) (hp : R.Pairwise fun a b => a.length ≤ b.length) : up (R.map List.length) = lensL ds := by
  refine sorted_unique ((up_perm (hR.map _)).trans (lens_perm ds)) ?_ (lens_sorted ds)
  unfold up
  rw [List.pairwise_map, List.pairwise_map]
  exact hp.imp fun h => Int.ofNat_le.mpr h
theorem up_inj {l m : List Nat} (h : up l = up m) : l = m := (List.map_inj_right fun a b e => Int.ofNat.inj e).mp h
theorem lens_total {ds : List Int} (hs : Shf ds) : (lensL ds).sum = ds.length := by
  have h := back_cnt hs (rings_of hs) 0
  have e1 : ((lensL ds).filter fun l => decide (((0 : Nat) : Int) % l = 0)) = lensL ds := List.filter_eq_self.mpr fun l _ => decide_eq_true (Int.zero_emod l)
  have e2 : cnt ds 0 = ds.length := by
    have e3 : ((List.range ds.length).filter fun k => decide (orb ds k 0 = k)) = List.range ds.length := List.filter_eq_self.mpr fun k _ => decide_eq_true rfl
    unfold cnt
    rw [e3, List.length_range]
  rw [e1, e2] at h
  exact h
/-! ### rules: sorted by len, zip -/
theorem perm_lift {α β : Type} {f : α → β} {l k : List β} (h : l.Perm k) : ∀ {m : List α}, k = m.map f → ∃ m' : List α, m'.Perm m ∧ l = m'.map f := by
  induction h with
  | nil =>
    intro m e
    exact ⟨m, List.Perm.refl _, e⟩
  | cons x _ ih =>
    intro m e
    cases m with
    | nil => cases e
    | cons a m =>
      rw [List.map_cons] at e
      injection e with e1 e2
      obtain ⟨m', p, e3⟩ := ih e2
      exact ⟨a :: m', p.cons a, by rw [List.map_cons, e1, e3]⟩
  | swap x y l =>
    intro m e
    match m, e with
    | a :: b :: m, e =>
      rw [List.map_cons, List.map_cons] at e
      injection e with e1 e2
      injection e2 with e3 e4
      exact ⟨b :: a :: m, List.Perm.swap .., by rw [List.map_cons, List.map_cons, e1, e3, e4]⟩
  | trans _ _ ih1 ih2 =>
    intro m e
    obtain ⟨m1, p1, e1⟩ := ih2 e
    obtain ⟨m2, p2, e2⟩ := ih1 e1
    exact ⟨m2, p2.trans p1, e2⟩
theorem nest_zip : ∀ {H : Hp} {qs : List Addr} {R : List (List Nat)}, Nest H qs R → ∀ q r, (q, r) ∈ qs.zip R → H q = some (.lst (vi (up r))) := fun {H qs R} h q r m => by
  obtain ⟨i, hi, e⟩ := List.getElem_of_mem m
  rw [List.length_zip] at hi
  have g := List.getElem?_eq_getElem (l := qs.zip R) (by rw [List.length_zip]; exact hi)
  rw [e, List.getElem?_zip_eq_some] at g
  exact h.2 i q r g.1 g.2
theorem q_asgSort {K : PySem.W.Frag} {σ : L2.St} {H : Hp} {te : TE} {D : Ends} {tz : TS} {i : Nat} {R : List (List Nat)} (h : EvN te σ H R)
    (k : ∀ p qs R' H1, H p = none → Ex H H1 → H1 p = some (.lst (qs.map .ref)) → Nest H1 qs R' → R'.Perm R → R'.Pairwise (fun a b => a.length ≤ b.length) → (∀ q ∈ qs, H q = none) → tz D (σ.set i (some (.ref p))) H1) : tSeq (tAsg (tSortLen K te) (gName i)) tz D σ H :=
  h H (Ex.refl H) _ fun p qs H2 hp e2 g nest fr => by
    have lq := nest.1
    refine ⟨p, qs, R.map List.length, rfl, sq_of g, by rw [List.length_map, lq], fun i b n hb hn => ?_, fun ps p' hperm hpw hn => ?_⟩
    · rw [List.getElem?_map] at hn
      cases gr : R[i]? with
      | none =>
        rw [gr] at hn
        cases hn
      | some r =>
        rw [gr] at hn
        cases hn
        exact ⟨_, sq_of (nest.2 i b r hb gr), by rw [List.length_map, up_length]⟩
    · have ez : ((R.map List.length).map Int.ofNat).zip qs = (qs.zip R).map fun z => ((z.2.length : Int), z.1) := by
        refine List.ext_getElem? fun i => ?_
        rw [List.getElem?_map]
        by_cases c : i < qs.length
        · have a : qs[i]? = some qs[i] := List.getElem?_eq_getElem c
          have b : R[i]? = some (R[i]'(by omega)) := List.getElem?_eq_getElem _
          rw [(List.getElem?_zip_eq_some (z := (_, _))).mpr ⟨a, b⟩]
          refine (List.getElem?_zip_eq_some (z := (_, _))).mpr ⟨?_, a⟩
          rw [List.getElem?_map, List.getElem?_map, b]
          rfl
        · rw [List.getElem?_eq_none (by rw [List.length_zip, List.length_map, List.length_map]; omega), List.getElem?_eq_none (by rw [List.length_zip]; omega)]
          rfl
      obtain ⟨zs, pz, rfl⟩ := perm_lift hperm ez
      have mem : ∀ z ∈ zs, H2 z.1 = some (.lst (vi (up z.2))) ∧ H z.1 = none := fun z hz => by
        have hz' : (z.1, z.2) ∈ qs.zip R := pz.mem_iff.mp hz
        exact ⟨nest_zip nest z.1 z.2 hz', fr z.1 (List.of_mem_zip hz').1⟩
      have np : ∀ z ∈ zs, z.1 ≠ p' := fun z hz e => by
        have := (mem z hz).1
        rw [e, hn] at this
        cases this
      have e3 : Ex H2 (upd H2 p' (.lst ((zs.map fun z => ((z.2.length : Int), z.1)).map fun q => V.ref q.2))) := Ex.new hn
      refine k p' (zs.map (·.1)) (zs.map (·.2)) _ (fresh_back e2 hn) (e2.trans e3) ?_ ⟨by rw [List.length_map, List.length_map], fun i q r hq hr => ?_⟩ ?_ ?_ ?_
      · rw [upd_same, List.map_map, List.map_map]
        rfl
      · rw [List.getElem?_map] at hq hr
        cases gz : zs[i]? with
        | none =>
          rw [gz] at hq
          cases hq
        | some z =>
          rw [gz] at hq hr
          cases hq
          cases hr
          exact e3 _ _ (mem z (List.mem_of_getElem? gz)).1
      · have := pz.map (·.2)
        rw [List.map_snd_zip (by omega)] at this
        exact this
      · rw [List.pairwise_map] at hpw ⊢
        exact hpw.imp fun h => Int.ofNat_le.mp h
      · intro q hq
        obtain ⟨z, hz, rfl⟩ := List.mem_map.mp hq
        exact (mem z hz).2
theorem s_forZip {K : PySem.W.Frag} {σ : L2.St} {H : Hp} {ta : TA} {tu : TS} {D : Ends} {u v : Nat} {a b : Addr} {xs ys : List V} (h : EvA ta σ H [.ref a, .ref b]) (ha : SqL K H a xs) (hb : SqL K H b ys) (hl : xs.length = ys.length) (Pv : Nat → L2.St → Hp → Prop) (h0 : ∀ H1, Ex H H1 → Pv 0 σ H1)
    (hG : ∀ i σ' H', i ≤ xs.length → Pv i σ' H' → SqL K H' a xs ∧ SqL K H' b ys)
    (hs : ∀ i x y σ' H' H2, xs[i]? = some x → ys[i]? = some y → Pv i σ' H' → Ex H' H2 → tu { D with nx := Pv (i + 1), ct := Pv (i + 1), bk := D.nx } ((σ'.set u (some x)).set v (some y)) H2)
    (hd : ∀ σ' H', Pv xs.length σ' H' → D.nx σ' H') : tFor (iZip K ta) (gTup K 2 (gCons (gName u) (gCons (gName v) gNil))) tu D σ H :=
  h H (Ex.refl H) _ fun H1 e1 => ⟨a, b, xs, ys, rfl, ex_l e1 ha, ex_l e1 hb, for_it (walk_zip (n := xs.length) (by omega)) Pv (h0 H1 e1) hG (fun i x σ' H' H'' hi p ⟨T, x1, y1, ex, hT, eH, g1, g2⟩ => by
    subst ex
    subst eH
    refine ⟨T, [x1, y1], rfl, st_of upd_same, rfl, ?_⟩
    exact ⟨_, _, rfl, _, _, rfl, rfl, hs i x1 y1 σ' H' _ g1 g2 p (Ex.new hT)⟩) hd⟩
theorem q_forZip {K : PySem.W.Frag} {σ : L2.St} {H : Hp} {ta : TA} {tu tz : TS} {D : Ends} {u v : Nat} {a b : Addr} {xs ys : List V} (h : EvA ta σ H [.ref a, .ref b]) (ha : SqL K H a xs) (hb : SqL K H b ys) (hl : xs.length = ys.length) (Pv : Nat → L2.St → Hp → Prop) (h0 : ∀ H1, Ex H H1 → Pv 0 σ H1)
    (hG : ∀ i σ' H', i ≤ xs.length → Pv i σ' H' → SqL K H' a xs ∧ SqL K H' b ys)
    (hs : ∀ i x y σ' H' H2, xs[i]? = some x → ys[i]? = some y → Pv i σ' H' → Ex H' H2 → tu { D with nx := Pv (i + 1), ct := Pv (i + 1), bk := tz D } ((σ'.set u (some x)).set v (some y)) H2)
    (hd : ∀ σ' H', Pv xs.length σ' H' → tz D σ' H') : tSeq (tFor (iZip K ta) (gTup K 2 (gCons (gName u) (gCons (gName v) gNil))) tu) tz D σ H :=
  s_forZip (D := { D with nx := tz D }) h ha hb hl Pv h0 hG hs hd

theorem nat_perm {ns : List Int} {n : Nat} (h : ns.Perm (iota n)) : (ns.map Int.toNat).Perm (List.range n) := by
  have := h.map Int.toNat
  unfold iota at this
  rw [List.map_map] at this
  have e : (List.range n).map (Int.toNat ∘ fun i : Nat => (i : Int)) = List.range n := (List.map_congr_left fun i _ => Int.toNat_natCast i).trans (List.map_id' _)
  rwa [e] at this
theorem nx_list (ns : List Int) : (List.range ns.length).map (nx ns) = ns.map Int.toNat := by
  refine List.ext_getElem? fun i => ?_
  rw [List.getElem?_map, List.getElem?_map]
  by_cases h : i < ns.length
  · rw [List.getElem?_range h, List.getElem?_eq_getElem h]
    show some (nx ns i) = _
    unfold nx
    rw [List.getD_eq_getElem?_getD, List.getElem?_eq_getElem h]
    rfl
  · rw [List.getElem?_eq_none (by rw [List.length_range]; omega), List.getElem?_eq_none (by omega)]
    rfl
def anewS (ns : List Int) (n : Nat) : List Nat := (List.range n).map (nx ns)
def anewT (ds ns : List Int) (n : Nat) : List Nat := (List.range n).map fun t => nx ns (nx ds t)
theorem anew_shf {ds ns : List Int} {n : Nat} (hd : Shf ds) (hn : Shf ns) (ld : ds.length = n) (ln : ns.length = n) {F : List Int} (h : LInv (anewS ns n) (anewT ds ns n) n F n) : Shf F := by
  have n0 := hd.1
  have n1 := hd.2.1
  have pS : (anewS ns n).Perm (List.range n) := by
    unfold anewS
    rw [← ln, nx_list, ln]
    exact nat_perm (ln ▸ hn.2.2)
  have pT : (anewT ds ns n).Perm (List.range n) := by
    have e : anewT ds ns n = ((List.range n).map (nx ds)).map (nx ns) := by
      unfold anewT
      rw [List.map_map]
      rfl
    rw [e, ← ld, nx_list, ld]
    exact ((nat_perm (ld ▸ hd.2.2)).map (nx ns)).trans pS
  refine shf_of (by omega) (by omega) pS pT ?_
  rwa [pS.length_eq, List.length_range]
theorem LInv.stepU {S T : List Nat} {n m x y : Nat} {F : List Int} (h : LInv S T n F m) (inj : ∀ t, t < m → S[t]? ≠ some x) (hx : S[m]? = some x) (hy : T[m]? = some y) (lt : x < n) : LInv S T n (F.set x (y : Int)) (m + 1) := by
  refine ⟨by rw [List.length_set]; exact h.1, fun t a b ht ha hb => ?_⟩
  by_cases c : t = m
  · subst c
    rw [hx] at ha
    rw [hy] at hb
    cases ha
    cases hb
    rw [List.getElem?_set_self (by rw [h.1]; exact lt)]
  · have ne : x ≠ a := fun z => by
      subst z
      exact inj t (by omega) ha
    rw [List.getElem?_set_ne ne]
    exact h.2 t a b (by omega) ha hb
def LeadV (ds es : List Int) (v : V) (H : Hp) : Prop := if lensL ds = lensL es then ∃ p F, v = .ref p ∧ H p = some (.tup (vi F)) ∧ Led ds es F else v = .non
theorem LeadV.ex {ds es : List Int} {v : V} {H H1 : Hp} (h : LeadV ds es v H) (e : Ex H H1) : LeadV ds es v H1 := by
  unfold LeadV at h ⊢
  split at h
  · rename_i c
    rw [if_pos c]
    obtain ⟨p, F, a, b, d⟩ := h
    exact ⟨p, F, a, e _ _ b, d⟩
  · rename_i c
    rw [if_neg c]
    exact h
theorem map_at {α β : Type} {f : α → β} {l : List α} {i : Nat} {x : β} (h : (l.map f)[i]? = some x) : ∃ a, l[i]? = some a ∧ x = f a := by
  rw [List.getElem?_map] at h
  cases g : l[i]? with
  | none =>
    rw [g] at h
    cases h
  | some a =>
    rw [g] at h
    cases h
    exact ⟨a, rfl, rfl⟩
theorem nest_at {H : Hp} {qs : List Addr} {R : List (List Nat)} (h : Nest H qs R) {i : Nat} {q : Addr} (g : qs[i]? = some q) : ∃ r, R[i]? = some r ∧ H q = some (.lst (vi (up r))) := by
  have hi := (List.getElem?_eq_some_iff.mp g).1
  have e := List.getElem?_eq_getElem (l := R) (i := i) (by rw [← h.1]; exact hi)
  exact ⟨_, e, h.2 i q _ g e⟩
theorem upV_at {r : List Nat} {j : Nat} {x : V} (h : (vi (up r))[j]? = some x) : ∃ k, r[j]? = some k ∧ x = .int (k : Int) := by
  obtain ⟨z, h1, rfl⟩ := map_at h
  obtain ⟨k, h2, rfl⟩ := map_at h1
  exact ⟨k, h2, rfl⟩
theorem el_sortedI {K : PySem.W.Frag} {σ : L2.St} {H : Hp} {ta : TE} {p : Addr} {ns ms : List Int} (ha : Ev ta σ H (.ref p)) (h : SqL K H p (vi ns)) (hp : ns.Perm ms) (hm : ms.Pairwise (· ≤ ·)) : EvL (tCB (rSortedI K) (tCons ta tNil)) σ H (vi ms) := fun H1 e Q q =>
  ha H1 e _ fun H2 e2 => ⟨p, ns, rfl, ex_l (e.trans e2) h, fun ns' l k1 k2 hl => by
    rw [sorted_unique (k1.trans hp) k2 hm]
    exact q l _ (fresh_back e2 hl) (e2.trans (Ex.new hl)) upd_same⟩
theorem ep_callK {σ : L2.St} {H : Hp} {sp : Sp} {gV : List V → List V → List V} {vs zs : List V} {E : XK} {ta tk : TA} {P : V → Hp → Prop} (h : EvA ta σ H vs) (h' : EvA tk σ H zs) (hs : SpP sp (gV vs zs) H P) : EvP (tCallK sp gV E ta tk) σ H P := fun H1 e Q q =>
  h H1 e _ fun H2 e2 => h' H2 (e.trans e2) _ fun H3 e3 => hs H3 ((e.trans e2).trans e3) Q (fun v H4 e4 p => q v H4 ((e2.trans e3).trans e4) p) E
theorem q_parPP {σ : L2.St} {H : Hp} {ta tb : TE} {i j : Nat} {D : Ends} {tz : TS} {P1 P2 : V → Hp → Prop} (h1 : EvP ta σ H P1) (m1 : ∀ v H1 H2, Ex H1 H2 → P1 v H1 → P1 v H2) (h2 : EvP tb σ H P2) (k : ∀ x y H1, Ex H H1 → P1 x H1 → P2 y H1 → tz D ((σ.set i (some x)).set j (some y)) H1) : tSeq (tPar i j (tCons ta (tCons tb tNil))) tz D σ H :=
  h1 H (Ex.refl H) _ fun x H2 e2 p1 => h2 H2 e2 _ fun y H3 e3 p2 => ⟨_, _, rfl, k x y H3 (e2.trans e3) (m1 x H2 H3 e3 p1) p2⟩

theorem given_false (n : Nat) (v : Nat → V) : given n (fun _ => false) v = [] := by
  unfold given
  simp
theorem shf_perm {ns : List Int} {m : Nat} (h : ns.Perm (iota m)) (m0 : 0 < m) (m1 : m ≤ 300) : Shf ns := by
  have l : ns.length = m := by rw [h.length_eq, iota_length]
  exact ⟨by omega, by omega, by rw [l]; exact h⟩
theorem shf_inj {m : Nat} (m0 : 0 < m) (m1 : m ≤ 300) (f : Nat → Nat) (lt : ∀ k, k < m → f k < m) (inj : ∀ i j, i < j → j < m → f i ≠ f j) : Shf ((List.range m).map fun k => (f k : Int)) := by
  have hl : ((List.range m).map fun k => (f k : Int)).length = m := by simp
  refine ⟨by omega, by omega, ?_⟩
  rw [hl]
  refine perm_iota ?_ ?_ hl
  · show List.Pairwise _ _
    refine List.pairwise_iff_getElem.mpr fun i j hi hj hij e => ?_
    rw [hl] at hi hj
    simp only [List.getElem_map, List.getElem_range] at e
    exact inj i j hij hj (by omega)
  · intro x hx
    obtain ⟨k, hk, rfl⟩ := List.mem_map.mp hx
    have := lt k (List.mem_range.mp hk)
    omega
theorem ew_callXU {σ : L2.St} {H : Hp} {a : Addr} {d : Nat} {sp : Sp} {E : XK} {ta te : TE} {x v : V} {PU : List V → Prop} (h1 : Ev ta σ (hid a H) x) (h : EvWU a d te σ H PU) (hs : ∀ p xs H1, But a H H1 → H1 p = some (.tup xs) → PU xs → SpV sp [x, .ref p] H1 v) : EvW a d (tCall sp [] E (tCons ta (tCons te tNil))) σ H (fun z => z = v) := fun n H1 bt w l Q q =>
  h1 H1 (ex_hid bt) _ fun H2 e2 => h n H2 (bt.trans (But.ex e2)) (w.ex e2) l _ fun p xs H3 hp b3 w3 h3 pu => hs p xs H3 ((bt.trans (But.ex e2)).trans b3) h3 pu H3 (Ex.refl H3) Q (fun H4 e4 => q v H4 (((But.ex e2).trans b3).trans (But.ex e4)) (w3.ex e4) rfl) E
theorem ew_andT {σ : L2.St} {H : Hp} {a : Addr} {d : Nat} {ta tb : TE} {P : V → Prop} (h1 : ∀ H1, But a H H1 → Ev ta σ H1 (.bl true)) (h2 : EvW a d tb σ H P) : EvW a d (tAndV ta tb) σ H P := fun n H1 bt w l Q q =>
  h1 H1 bt H1 (Ex.refl H1) _ fun H2 e2 => ⟨true, rfl, iteT (h2 n H2 (bt.trans (But.ex e2)) (w.ex e2) l _ fun v H3 b3 w3 p => q v H3 ((But.ex e2).trans b3) w3 p)⟩
def revL (m : Nat) : List Int := (List.range m).map fun k => ((m - 1 - k : Nat) : Int)
def sevL (m : Nat) : List Int := (List.range m).map fun k => ((if k < 293 then (7 * k + 5) % 293 else k : Nat) : Int)
theorem rev_shf {m : Nat} (m0 : 0 < m) (m1 : m ≤ 300) : Shf (revL m) := shf_inj m0 m1 (fun k => m - 1 - k) (fun k h => by omega) fun i j h1 h2 => by omega
theorem sev_ne {i j : Nat} (h : i < j) (h1 : j < 293) : (7 * i + 5) % 293 ≠ (7 * j + 5) % 293 := fun e => by
  have := Nat.dvd_of_mod_eq_zero (Nat.sub_mod_eq_zero_of_mod_eq e.symm)
  rw [show 7 * j + 5 - (7 * i + 5) = 7 * (j - i) by omega] at this
  have := Nat.Coprime.dvd_of_dvd_mul_left (show Nat.Coprime 293 7 by decide) this
  have := Nat.eq_zero_of_dvd_of_lt this (by omega)
  omega
theorem sev_shf {m : Nat} (m0 : 293 ≤ m) (m1 : m ≤ 300) : Shf (sevL m) := shf_inj (by omega) m1 (fun k => if k < 293 then (7 * k + 5) % 293 else k) (fun k h => by
  show (if k < 293 then (7 * k + 5) % 293 else k) < m
  split
  · have := Nat.mod_lt (7 * k + 5) (show 0 < 293 by decide)
    omega
  · exact h) fun i j h1 h2 => by
  show (if i < 293 then (7 * i + 5) % 293 else i) ≠ (if j < 293 then (7 * j + 5) % 293 else j)
  by_cases c : j < 293
  · rw [if_pos (by omega), if_pos c]
    exact sev_ne h1 c
  · rw [if_neg c]
    by_cases c2 : i < 293
    · rw [if_pos c2]
      have := Nat.mod_lt (7 * i + 5) (show 0 < 293 by decide)
      omega
    · rw [if_neg c2]
      omega

/-! ### turns add up and multiply -/
def fac : Nat → Nat
  | 0 => 1
  | n + 1 => (n + 1) * fac n
theorem fac_pos : ∀ n, 0 < fac n
  | 0 => Nat.one_pos
  | n + 1 => Nat.mul_pos (Nat.succ_pos n) (fac_pos n)
theorem fac_dvd {k : Nat} (k0 : 1 ≤ k) : ∀ {n : Nat}, k ≤ n → k ∣ fac n
  | 0, h => absurd h (by omega)
  | n + 1, h => by
    by_cases c : k = n + 1
    · rw [c]
      exact Nat.dvd_mul_right _ _
    · exact Nat.dvd_trans (fac_dvd k0 (by omega)) (Nat.dvd_mul_left _ _)
theorem tn_fac {ds : List Int} (hs : Shf ds) (t : Int) {i : Nat} (hi : i < ds.length) : tn ds t i = orb ds i (t % (fac ds.length : Int)).toNat := by
  obtain ⟨p1, p2⟩ := per_pos hs hi
  have d : per ds i ∣ fac ds.length := fac_dvd p1 p2
  have fp := fac_pos ds.length
  have h0 := Int.emod_nonneg t (show (fac ds.length : Int) ≠ 0 by omega)
  have h1 := Int.emod_nonneg t (show (per ds i : Int) ≠ 0 by omega)
  unfold tn
  rw [← orb_mod hs hi (t % (fac ds.length : Int)).toNat]
  congr 1
  have e : (((t % (fac ds.length : Int)).toNat % per ds i : Nat) : Int) = t % (per ds i : Int) := by
    rw [Int.natCast_emod, Int.toNat_of_nonneg h0]
    exact Int.emod_emod_of_dvd t (Int.natCast_dvd_natCast.mpr d)
  omega
theorem tn_congr {ds : List Int} (hs : Shf ds) {t u : Int} {i : Nat} (hi : i < ds.length) (h : t % (fac ds.length : Int) = u % (fac ds.length : Int)) : tn ds t i = tn ds u i := by rw [tn_fac hs t hi, tn_fac hs u hi, h]
theorem orb_fac {ds : List Int} (hs : Shf ds) (k : Nat) {i : Nat} (hi : i < ds.length) : orb ds i k = tn ds (k : Int) i := (tn_nat hs k hi).symm
theorem tn_add {ds : List Int} (hs : Shf ds) (t u : Int) {i : Nat} (hi : i < ds.length) : tn ds u (tn ds t i) = tn ds (t + u) i := by
  have fp := fac_pos ds.length
  have h0 := Int.emod_nonneg t (show (fac ds.length : Int) ≠ 0 by omega)
  have h1 := Int.emod_nonneg u (show (fac ds.length : Int) ≠ 0 by omega)
  rw [tn_fac hs u (tn_lt hs t hi), tn_fac hs t hi, ← orb_add, orb_fac hs _ hi]
  refine tn_congr hs hi ?_
  rw [Int.natCast_add, Int.toNat_of_nonneg h0, Int.toNat_of_nonneg h1]
  exact (Int.add_emod t u _).symm
theorem nx_turn {ds : List Int} (t : Int) {i : Nat} (hi : i < ds.length) : nx (turnL ds t) i = tn ds t i := by
  unfold nx turnL
  rw [List.getD_eq_getElem?_getD, List.getElem?_map, List.getElem?_range hi]
  exact Int.toNat_natCast _
theorem orb_turnI {ds : List Int} (hs : Shf ds) (t : Int) {i : Nat} (hi : i < ds.length) : ∀ k : Nat, orb (turnL ds t) i k = tn ds (t * (k : Int)) i
  | 0 => by
    show i = tn ds (t * 0) i
    rw [Int.mul_zero]
    exact (tn_nat hs 0 hi).symm
  | k + 1 => by
    show nx (turnL ds t) (orb (turnL ds t) i k) = _
    rw [orb_turnI hs t hi k, nx_turn t (tn_lt hs _ hi), tn_add hs _ _ hi]
    congr 1
    rw [Int.natCast_add, Int.mul_add]
    show _ = t * (k : Int) + t * 1
    rw [Int.mul_one]
theorem turn_turn {ds : List Int} (hs : Shf ds) (t u : Int) : turnL (turnL ds t) u = turnL ds (t * u) := by
  have ht := turn_shf hs t
  have fp := fac_pos ds.length
  have h1 := Int.emod_nonneg u (show (fac ds.length : Int) ≠ 0 by omega)
  refine turn_end' (by rw [turn_length, turn_length]) fun i hi => ?_
  have e : (turnL (turnL ds t) u).getD i 0 = (tn (turnL ds t) u i : Int) := by
    unfold turnL
    rw [List.getD_eq_getElem?_getD, List.getElem?_map, List.length_map, List.length_range, List.getElem?_range hi]
    rfl
  rw [e, tn_fac ht u (by rw [turn_length]; exact hi), turn_length, orb_turnI hs t hi]
  congr 1
  refine tn_congr hs hi ?_
  rw [Int.toNat_of_nonneg h1, Int.mul_emod, Int.emod_emod_of_dvd u (Int.dvd_refl _), ← Int.mul_emod]
def behL (f g : List Int) : List Int := (List.range f.length).map fun i => (nx g (nx f i) : Int)
theorem behL_length (f g : List Int) : (behL f g).length = f.length := by simp [behL]
theorem nx_beh (f g : List Int) {i : Nat} (hi : i < f.length) : nx (behL f g) i = nx g (nx f i) := by
  unfold nx behL
  rw [List.getD_eq_getElem?_getD, List.getElem?_map, List.getElem?_range hi]
  exact Int.toNat_natCast _
theorem beh_shf {f g : List Int} (hf : Shf f) (hg : Shf g) (l : g.length = f.length) : Shf (behL f g) := shf_perm (m := f.length) (by
  have e : behL f g = up (((List.range f.length).map (nx f)).map (nx g)) := by
    unfold behL up
    rw [List.map_map, List.map_map]
    rfl
  rw [e, nx_list]
  refine (up_perm ((nat_perm hf.2.2).map (nx g))).trans ?_
  rw [← l, nx_list]
  exact up_perm (nat_perm hg.2.2)) hf.1 hf.2.1
theorem ext_nx {f g : List Int} (hf : Shf f) (hg : Shf g) (l : f.length = g.length) (h : ∀ i, i < f.length → nx f i = nx g i) : f = g := by
  refine List.ext_getElem? fun i => ?_
  by_cases hi : i < f.length
  · have a := nx_get hf hi
    have b := nx_get hg (show i < g.length by omega)
    rw [List.getD_eq_getElem?_getD, List.getElem?_eq_getElem hi] at a
    rw [List.getD_eq_getElem?_getD, List.getElem?_eq_getElem (show i < g.length by omega)] at b
    rw [List.getElem?_eq_getElem hi, List.getElem?_eq_getElem (show i < g.length by omega)]
    have a' : f[i] = (nx f i : Int) := a
    have b' : g[i] = (nx g i : Int) := b
    rw [a', b', h i hi]
  · rw [List.getElem?_eq_none (by omega), List.getElem?_eq_none (by omega)]
theorem beh_turn {ds : List Int} (hs : Shf ds) (t u : Int) : behL (turnL ds t) (turnL ds u) = turnL ds (t + u) := by
  have a := turn_shf hs t
  have b := turn_shf hs u
  refine ext_nx (beh_shf a b (by rw [turn_length, turn_length])) (turn_shf hs _) (by rw [behL_length, turn_length, turn_length]) fun i hi => ?_
  rw [behL_length, turn_length] at hi
  rw [nx_beh _ _ (by rw [turn_length]; exact hi), nx_turn t hi, nx_turn u (tn_lt hs t hi), nx_turn _ hi, tn_add hs t u hi]
/-- what leads back -/
def Inv' (f g : List Int) : Prop := Shf g ∧ g.length = f.length ∧ ∀ i, i < f.length → nx g (nx f i) = i
theorem nx_sur {f : List Int} (hf : Shf f) {y : Nat} (hy : y < f.length) : ∃ i, i < f.length ∧ nx f i = y := by
  have p : ((List.range f.length).map (nx f)).Perm (List.range f.length) := by
    rw [nx_list]
    exact nat_perm hf.2.2
  have m := p.mem_iff.mpr (List.mem_range.mpr hy)
  obtain ⟨i, hi, e⟩ := List.mem_map.mp m
  exact ⟨i, List.mem_range.mp hi, e⟩
theorem Inv'.uniq {f g h : List Int} (hf : Shf f) (a : Inv' f g) (b : Inv' f h) : g = h := by
  obtain ⟨a1, a2, a3⟩ := a
  obtain ⟨b1, b2, b3⟩ := b
  refine ext_nx a1 b1 (by omega) fun y hy => ?_
  obtain ⟨i, hi, rfl⟩ := nx_sur hf (show y < f.length by omega)
  rw [a3 i hi, b3 i hi]
theorem inv_turn {ds : List Int} (hs : Shf ds) (t : Int) : Inv' (turnL ds t) (turnL ds (-t)) := by
  refine ⟨turn_shf hs _, by rw [turn_length, turn_length], fun i hi => ?_⟩
  rw [turn_length] at hi
  rw [nx_turn t hi, nx_turn _ (tn_lt hs t hi), tn_add hs _ _ hi, show t + -t = ((0 : Nat) : Int) by omega, tn_nat hs 0 hi]
  rfl
theorem led_beh {ds es F : List Int} (hd : Shf ds) (he : Shf es) (hl : es.length = ds.length) (h : Led ds es F) : behL ds F = behL F es := by
  obtain ⟨sF, lF, q⟩ := h
  refine ext_nx (beh_shf hd sF lF) (beh_shf sF he (by omega)) (by rw [behL_length, behL_length]; omega) fun i hi => ?_
  rw [behL_length] at hi
  rw [nx_beh _ _ hi, nx_beh _ _ (by omega), q i hi]
theorem led_orb {ds es F : List Int} (hd : Shf ds) (h : Led ds es F) {i : Nat} (hi : i < ds.length) : ∀ k, nx F (orb ds i k) = orb es (nx F i) k
  | 0 => rfl
  | k + 1 => by
    show nx F (nx ds (orb ds i k)) = nx es (orb es (nx F i) k)
    rw [← led_orb hd h hi k, h.2.2 _ (orb_lt hd hi k)]
theorem led_turn {ds es F : List Int} (hd : Shf ds) (he : Shf es) (hl : es.length = ds.length) (h : Led ds es F) (t : Int) : Led (turnL ds t) (turnL es t) F := by
  refine ⟨h.1, by rw [turn_length]; exact h.2.1, fun i hi => ?_⟩
  rw [turn_length] at hi
  have nF : nx F i < es.length := by
    have := nx_lt h.1 (show i < F.length by rw [h.2.1]; exact hi)
    have := h.2.1
    omega
  rw [nx_turn t nF, nx_turn t hi, tn_fac he t nF, tn_fac hd t hi, hl, led_orb hd h hi]
theorem led_inv {ds es F G : List Int} (hd : Shf ds) (he : Shf es) (hl : es.length = ds.length) (h : Led ds es F) (g : Inv' F G) : Led es ds G := by
  obtain ⟨sF, lF, q⟩ := h
  obtain ⟨g1, g2, g3⟩ := g
  refine ⟨g1, by omega, fun y hy => ?_⟩
  obtain ⟨i, hi, rfl⟩ := nx_sur sF (show y < F.length by omega)
  rw [g3 i hi, q i (by omega), g3 _ (by have := nx_lt hd (show i < ds.length by omega); omega)]
/-! ### rows tell the rings -/
theorem cnt_sort {L M : List Int} (h : L.Perm M) (h1 : L.Pairwise (· ≤ ·)) (h2 : M.Pairwise (· ≤ ·)) : L = M := sorted_unique h h1 h2
theorem rows_lens {ds es : List Int} (hd : Shf ds) (he : Shf es) (hl : es.length = ds.length) : backL ds ds.length = backL es ds.length ↔ lensL ds = lensL es := by
  have rd := rings_of hd
  have re := rings_of he
  constructor
  · intro h
    have e : cntL (lensL ds) ds.length = cntL (lensL es) ds.length := by
      have a := back_rowL hd ds.length
      have b := back_rowL he ds.length
      rw [h] at a
      rw [← rings_row (cntL (lensL ds) ds.length), ← rings_row (cntL (lensL es) ds.length), ← a, ← b]
    refine sorted_unique (List.perm_iff_count.mpr fun v => ?_) (lens_sorted ds) (lens_sorted es)
    by_cases c : 1 ≤ v ∧ v ≤ (ds.length : Int)
    · obtain ⟨k, rfl⟩ : ∃ k : Nat, v = ((k + 1 : Nat) : Int) := ⟨(v - 1).toNat, by omega⟩
      have := congrArg (fun l => l.getD k 0) e
      simp only [cntL] at this
      rw [tab_getD (by omega), tab_getD (by omega)] at this
      omega
    · rw [List.count_eq_zero.mpr fun m => c (lens_mem rd m), List.count_eq_zero.mpr fun m => c (by have := lens_mem re m; omega)]
  · intro h
    unfold backL
    refine List.map_congr_left fun t _ => ?_
    have a := back_cnt hd rd (t + 1)
    have b := back_cnt he re (t + 1)
    rw [h, b] at a
    omega
theorem led_lens {ds es F : List Int} (hd : Shf ds) (he : Shf es) (hl : es.length = ds.length) (h : Led ds es F) : lensL ds = lensL es := by
  refine (rows_lens hd he hl).mp ?_
  unfold backL
  refine List.map_congr_left fun t _ => ?_
  obtain ⟨sF, lF, _⟩ := id h
  have p : ((List.range ds.length).map (nx F)).Perm (List.range ds.length) := by
    rw [← lF, nx_list]
    exact nat_perm sF.2.2
  unfold cnt
  rw [hl, ← (p.filter fun k => decide (orb es k (t + 1) = k)).length_eq, List.filter_map, List.length_map]
  congr 1
  refine List.filter_congr fun k hk => ?_
  have hk := List.mem_range.mp hk
  show _ = decide (orb es (nx F k) (t + 1) = nx F k)
  rw [← led_orb hd h hk]
  exact decide_eq_decide.mpr ⟨fun z => by rw [z], fun z => nx_inj sF (by rw [lF]; exact orb_lt hd hk _) (by omega) z⟩
/-! ### the shuffle that is made of rings -/
theorem IsRing.more {l : List Int} (m : List Int) {r : List Nat} (h : IsRing l r) : IsRing (l ++ m) r := by
  refine ⟨h.pos, h.nd, fun i hi => ?_, fun j hj => ?_⟩
  · have := h.lt i hi
    rw [List.length_append]
    omega
  · rw [← h.nxt j hj]
    have hlt := h.lt (r.getD j 0) (by rw [getD_of hj]; exact List.getElem_mem hj)
    generalize r.getD j 0 = x at hlt
    unfold nx
    rw [List.getD_eq_getElem?_getD, List.getD_eq_getElem?_getD, List.getElem?_append_left hlt]
theorem blk_ring {l : List Int} {n : Nat} (hn : 0 < n) : IsRing (l ++ blk l.length n) ((List.range n).map (l.length + ·)) := by
  have e : ∀ {j : Nat}, j < n → ((List.range n).map (l.length + ·)).getD j 0 = l.length + j := fun {j} h => by
    rw [List.getD_eq_getElem?_getD, List.getElem?_map, List.getElem?_range h]
    rfl
  have ln : ((List.range n).map (l.length + ·)).length = n := by simp
  refine ⟨by omega, ?_, fun i hi => ?_, fun j hj => ?_⟩
  · refine List.pairwise_map.mpr (List.nodup_range.imp fun h => ?_)
    intro z
    exact h (by omega)
  · obtain ⟨j, hj, rfl⟩ := List.mem_map.mp hi
    have := List.mem_range.mp hj
    rw [List.length_append, blk_length hn]
    omega
  · rw [ln] at hj ⊢
    rw [e hj, e (Nat.mod_lt _ hn)]
    unfold nx blk
    rw [List.getD_eq_getElem?_getD, List.getElem?_append_right (by omega), show l.length + j - l.length = j by omega]
    by_cases c : j < n - 1
    · rw [List.getElem?_append_left (by simpa using c), List.getElem?_map, List.getElem?_range c, Nat.mod_eq_of_lt (by omega)]
      show ((l.length : Int) + (1 + (j : Int))).toNat = _
      omega
    · rw [List.getElem?_append_right (by simp; omega), List.length_map, List.length_range, show j - (n - 1) = 0 by omega, show j + 1 = n by omega, Nat.mod_self]
      show ((l.length : Int)).toNat = _
      omega
/-- rings side by side, with their lengths -/
def Side (l : List Int) (R : List (List Nat)) : Prop := (∀ r ∈ R, IsRing l r) ∧ R.flatten = List.range l.length
theorem Side.add {l : List Int} {R : List (List Nat)} (h : Side l R) {n : Nat} (hn : 0 < n) : Side (l ++ blk l.length n) (R ++ [(List.range n).map (l.length + ·)]) := by
  refine ⟨fun r hr => ?_, ?_⟩
  · rcases List.mem_append.mp hr with hr | hr
    · exact (h.1 r hr).more _
    · rw [List.mem_singleton.mp hr]
      exact blk_ring hn
  · rw [List.flatten_append, h.2, List.flatten_singleton, List.length_append, blk_length hn, List.range_add]
theorem side_addR {n : Nat} (hn : 0 < n) {acc : List Int} {R : List (List Nat)} (h : Side acc R) : ∀ t, ∃ S, Side (addR n acc t) S ∧ S.map List.length = R.map List.length ++ List.replicate t n
  | 0 => ⟨R, h, by simp⟩
  | t + 1 => by
    obtain ⟨S, h1, h2⟩ := side_addR hn h t
    refine ⟨_, h1.add hn, ?_⟩
    rw [List.map_append, h2, List.replicate_succ', ← List.append_assoc]
    simp
theorem side_due (ns : List Int) : ∀ i, ∃ S, Side (dueL ns i) S ∧ S.map List.length = ((List.range i).map fun k => List.replicate (ns.getD k 0).toNat (k + 1)).flatten
  | 0 => ⟨[], ⟨(fun _ h => nomatch h), rfl⟩, rfl⟩
  | i + 1 => by
    obtain ⟨R, h1, h2⟩ := side_due ns i
    obtain ⟨S, h3, h4⟩ := side_addR (Nat.succ_pos i) h1 (ns.getD i 0).toNat
    refine ⟨S, h3, ?_⟩
    rw [h4, h2, List.range_succ, List.map_append, List.flatten_append]
    simp
theorem count_reps (f : Nat → Nat) (v : Nat) : ∀ i, (((List.range i).map fun k => List.replicate (f k) (k + 1)).flatten).count v = if 1 ≤ v ∧ v ≤ i then f (v - 1) else 0
  | 0 => by
    rw [if_neg (by omega)]
    rfl
  | i + 1 => by
    rw [List.range_succ, List.map_append, List.flatten_append, List.count_append, count_reps f v i]
    show _ + (List.replicate (f i) (i + 1) ++ []).count v = _
    rw [List.append_nil, List.count_replicate]
    by_cases c : v = i + 1
    · subst c
      rw [if_neg (by omega), if_pos (by simp), if_pos (by omega)]
      show 0 + f i = f (i + 1 - 1)
      rw [Nat.add_sub_cancel, Nat.zero_add]
    · rw [if_neg (show ¬ ((i + 1 == v) = true) by rw [beq_iff_eq]; exact fun z => c z.symm)]
      by_cases d : 1 ≤ v ∧ v ≤ i
      · rw [if_pos d, if_pos (by omega), Nat.add_zero]
      · rw [if_neg d, if_neg (by omega)]
theorem ths_cons (l : Int) (L : List Int) (m : Nat) (hl : 1 ≤ l) : ∀ k, k ≤ m → ths (cntL (l :: L) m) k = ths (cntL L m) k + (if l ≤ k then l else 0)
  | 0, _ => by
    rw [if_neg (by omega)]
    rfl
  | k + 1, h => by
    show ths (cntL (l :: L) m) k + (1 + (k : Int)) * (cntL (l :: L) m).getD k 0 = ths (cntL L m) k + (1 + (k : Int)) * (cntL L m).getD k 0 + _
    have e1 : (cntL (l :: L) m).getD k 0 = ((l :: L).count ((k + 1 : Nat) : Int) : Int) := tab_getD (by omega)
    have e2 : (cntL L m).getD k 0 = (L.count ((k + 1 : Nat) : Int) : Int) := tab_getD (by omega)
    rw [ths_cons l L m hl k (by omega), e1, e2, List.count_cons]
    by_cases c : l = ((k + 1 : Nat) : Int)
    · rw [if_neg (by omega), show (if (l == ((k + 1 : Nat) : Int)) = true then 1 else 0) = 1 from if_pos (by rw [c]; exact beq_self_eq_true _), if_pos (by omega), show ((L.count ((k + 1 : Nat) : Int) + 1 : Nat) : Int) = (L.count ((k + 1 : Nat) : Int) : Int) + 1 from rfl, Int.mul_add, Int.mul_one]
      omega
    · rw [show (if (l == ((k + 1 : Nat) : Int)) = true then 1 else 0) = 0 from if_neg (by rw [beq_iff_eq]; exact c), Nat.add_zero]
      by_cases d : l ≤ (k : Int)
      · rw [if_pos d, if_pos (by omega)]
        omega
      · rw [if_neg d, if_neg (by omega)]
        omega
theorem ths_sumL (m : Nat) : ∀ {L : List Int}, (∀ l ∈ L, 1 ≤ l ∧ l ≤ m) → ths (cntL L m) m = L.sum
  | [], _ => by
    have : ∀ k, k ≤ m → ths (cntL [] m) k = 0 := by
      intro k
      induction k with
      | zero => intro _; rfl
      | succ k ih =>
        intro h
        show ths (cntL [] m) k + (1 + (k : Int)) * (cntL [] m).getD k 0 = 0
        have e2 : (cntL [] m).getD k 0 = (([] : List Int).count ((k + 1 : Nat) : Int) : Int) := tab_getD (by omega)
        rw [ih (by omega), e2]
        simp
    rw [this m (Nat.le_refl _)]
    rfl
  | l :: L, h => by
    have hl := h l (List.mem_cons_self ..)
    rw [ths_cons l L m hl.1 m (Nat.le_refl _), ths_sumL m fun x hx => h x (List.mem_cons_of_mem _ hx), if_pos hl.2, List.sum_cons]
    omega
theorem cntL_pos (L : List Int) (m : Nat) : ∀ c ∈ cntL L m, 0 ≤ c := fun c hc => by
  unfold cntL tabL at hc
  obtain ⟨k, _, rfl⟩ := List.mem_map.mp hc
  omega
theorem cntL_length (L : List Int) (m : Nat) : (cntL L m).length = m := tab_length _ _
theorem up_count (l : List Nat) (k : Nat) : (up l).count (k : Int) = l.count k := by
  induction l with
  | nil => rfl
  | cons a l ih =>
    show ((a : Int) :: up l).count (k : Int) = _
    rw [List.count_cons, List.count_cons, ih]
    by_cases c : a = k
    · subst c
      simp
    · have c' : ¬ (a : Int) = (k : Int) := by omega
      simp [c, c']
theorem any_cnt {ds : List Int} (hs : Shf ds) {R : List (List Nat)} (h : Rings ds R ds.length) (t : Nat) : (cnt ds t : Int) = ((up (R.map List.length)).filter fun l => decide ((t : Int) % l = 0)).sum := by
  rw [← rings_cnt t h.ring]
  unfold cnt
  rw [((h.perm hs).filter _).length_eq]
def plainL (ds : List Int) : List Int := dueL (cntL (lensL ds) ds.length) ds.length
theorem plain_ok {ds : List Int} (hs : Shf ds) : Shf (plainL ds) ∧ (plainL ds).length = ds.length ∧ lensL (plainL ds) = lensL ds ∧ ths (cntL (lensL ds) ds.length) ds.length = ds.length := by
  have rd := rings_of hs
  have h0 := hs.1
  have h3 := hs.2.1
  have lc := cntL_length (lensL ds) ds.length
  have t : ths (cntL (lensL ds) ds.length) ds.length = ds.length := by rw [ths_sumL _ fun l hl => lens_mem rd hl, lens_total hs]
  have sp : Shf (plainL ds) := by
    have := due_shf (cntL_pos (lensL ds) ds.length) (by rw [lc, t]; omega) (by rw [lc, t]; omega)
    rwa [lc] at this
  have lp : (plainL ds).length = ds.length := by
    have := dueL_length (cntL_pos (lensL ds) ds.length) ds.length
    rw [t] at this
    unfold plainL
    omega
  refine ⟨sp, lp, ?_, t⟩
  obtain ⟨S, h1, h2⟩ := side_due (cntL (lensL ds) ds.length) ds.length
  have rs : Rings (plainL ds) S (plainL ds).length := ⟨h1.1, by rw [h1.2]; exact List.nodup_range, fun i hi => by rw [h1.2]; exact List.mem_range.mpr hi⟩
  have pm : (up (S.map List.length)).Perm (lensL ds) := by
    rw [h2]
    refine List.perm_iff_count.mpr fun v => ?_
    by_cases c : 1 ≤ v ∧ v ≤ (ds.length : Int)
    · obtain ⟨k, rfl⟩ : ∃ k : Nat, v = ((k + 1 : Nat) : Int) := ⟨(v - 1).toNat, by omega⟩
      rw [up_count, count_reps, if_pos (by omega), Nat.add_sub_cancel]
      have e : (cntL (lensL ds) ds.length).getD k 0 = ((lensL ds).count ((k + 1 : Nat) : Int) : Int) := tab_getD (by omega)
      rw [e, Int.toNat_natCast]
    · rw [List.count_eq_zero.mpr fun m => c (lens_mem rd m), List.count_eq_zero.mpr fun m => ?_]
      obtain ⟨k, hk, rfl⟩ := List.mem_map.mp m
      have : 0 < ((((List.range ds.length).map fun k => List.replicate ((cntL (lensL ds) ds.length).getD k 0).toNat (k + 1)).flatten).count k) := List.count_pos_iff.mpr hk
      rw [count_reps] at this
      split at this
      · exact c (by omega)
      · exact absurd this (Nat.lt_irrefl _)
  refine (rows_lens sp hs lp.symm).mp ?_
  unfold backL
  refine List.map_congr_left fun k _ => ?_
  have a := any_cnt sp rs (k + 1)
  have b := back_cnt hs rd (k + 1)
  rw [perm_sum (pm.filter _), b] at a
  omega

def invL (f : List Int) : List Int := (List.range f.length).map fun y => ((((List.range f.length).find? fun i => decide (nx f i = y)).getD 0 : Nat) : Int)
theorem inv_ok {f : List Int} (hf : Shf f) : Inv' f (invL f) := by
  have key : ∀ i, i < f.length → nx (invL f) (nx f i) = i := fun i hi => by
    have h1 := nx_lt hf hi
    have h2 : ∃ j, (List.range f.length).find? (fun k => decide (nx f k = nx f i)) = some j := by
      cases g : (List.range f.length).find? (fun k => decide (nx f k = nx f i)) with
      | some j => exact ⟨j, rfl⟩
      | none => exact absurd (decide_eq_true rfl) (List.find?_eq_none.mp g i (List.mem_range.mpr hi))
    obtain ⟨j, hj⟩ := h2
    have e1 : nx f j = nx f i := by simpa using List.find?_some hj
    have e2 := nx_inj hf (List.mem_range.mp (List.mem_of_find?_eq_some hj)) hi e1
    unfold nx invL at *
    rw [List.getD_eq_getElem?_getD, List.getElem?_map, List.getElem?_range h1]
    show (((((List.range f.length).find? fun k => decide ((f.getD k 0).toNat = (f.getD i 0).toNat)).getD 0 : Nat) : Int)).toNat = i
    rw [hj, Int.toNat_natCast]
    exact e2
  have ll : (invL f).length = f.length := by simp [invL]
  refine ⟨shf_inj hf.1 hf.2.1 (fun y => ((List.range f.length).find? fun i => decide (nx f i = y)).getD 0) (fun y hy => ?_) (fun a b hab hb e => ?_), ll, key⟩
  · show ((List.range f.length).find? fun i => decide (nx f i = y)).getD 0 < f.length
    cases g : (List.range f.length).find? fun i => decide (nx f i = y) with
    | none => exact hf.1
    | some j => exact List.mem_range.mp (List.mem_of_find?_eq_some g)
  · obtain ⟨i, hi, rfl⟩ := nx_sur hf hb
    obtain ⟨j, hj, rfl⟩ := nx_sur hf (show a < f.length by omega)
    have k1 := key i hi
    have k2 := key j hj
    have lk : ∀ y, y < f.length → nx (invL f) y = ((List.range f.length).find? fun i => decide (nx f i = y)).getD 0 := fun y hy => by
      unfold nx invL
      rw [List.getD_eq_getElem?_getD, List.getElem?_map, List.getElem?_range hy]
      exact Int.toNat_natCast _
    rw [lk _ hb] at k1
    rw [lk _ (by omega)] at k2
    have : i = j := by
      rw [← k1, ← k2]
      exact e.symm
    subst this
    exact absurd hab (Nat.lt_irrefl _)
theorem anew_led {ds ns : List Int} (hd : Shf ds) (hn : Shf ns) (l : ns.length = ds.length) : Led ds (behL (invL ns) (behL ds ns)) ns := by
  obtain ⟨i1, i2, i3⟩ := inv_ok hn
  refine ⟨hn, l, fun i hi => ?_⟩
  have h1 := nx_lt hn (show i < ns.length by omega)
  rw [nx_beh _ _ (by omega), i3 i (by omega), nx_beh _ _ hi]
theorem inv_eq {f F : List Int} (hf : Shf f) {m : Nat} (hm : m = f.length) (h : LInv (anewS f f.length) (List.range f.length) f.length F m) : F = invL f := by
  subst hm
  have pS : (anewS f f.length).Perm (List.range f.length) := by
    unfold anewS
    rw [nx_list]
    exact nat_perm hf.2.2
  have sF : Shf F := shf_of hf.1 hf.2.1 pS (List.Perm.refl _) (by rw [pS.length_eq, List.length_range]; exact h)
  refine Inv'.uniq hf ⟨sF, h.1, fun i hi => ?_⟩ (inv_ok hf)
  have a : (anewS f f.length)[i]? = some (nx f i) := by
    unfold anewS
    rw [List.getElem?_map, List.getElem?_range hi]
    rfl
  have b := h.2 i (nx f i) i (by omega) a (List.getElem?_range hi)
  show (F.getD (nx f i) 0).toNat = i
  rw [List.getD_eq_getElem?_getD, b]
  exact Int.toNat_natCast _
theorem p30 : (10 : Int) ^ 30 = 1000000000000000000000000000000 := by decide
theorem p100 : (2 : Nat) ^ 100 = 1267650600228229401496703205376 := by decide
theorem q_parPV {σ : L2.St} {H : Hp} {ta tb : TE} {i j : Nat} {D : Ends} {tz : TS} {P1 : V → Hp → Prop} {y : V} (h1 : EvP ta σ H P1) (m1 : ∀ v H1 H2, Ex H1 H2 → P1 v H1 → P1 v H2) (h2 : Ev tb σ H y) (k : ∀ x H1, Ex H H1 → P1 x H1 → tz D ((σ.set i (some x)).set j (some y)) H1) : tSeq (tPar i j (tCons ta (tCons tb tNil))) tz D σ H :=
  h1 H (Ex.refl H) _ fun x H2 e2 p1 => h2 H2 e2 _ fun H3 e3 => ⟨_, _, rfl, k x H3 (e2.trans e3) (m1 x H2 H3 e3 p1)⟩
theorem ev_callUUV {σ : L2.St} {H : Hp} {sp : Sp} {E : XK} {ta tb tc : TE} {xs ys : List V} {x v : V} (h1 : EvU ta σ H xs) (h2 : EvU tb σ H ys) (h3 : Ev tc σ H x) (hs : ∀ p q H1, Ex H H1 → H1 p = some (.tup xs) → H1 q = some (.tup ys) → SpV sp [.ref p, .ref q, x] H1 v) : Ev (tCall sp [] E (tCons ta (tCons tb (tCons tc tNil)))) σ H v := fun H1 e Q q =>
  h1 H1 e _ fun a H2 ha e2 g2 => h2 H2 (e.trans e2) _ fun b H3 hb e3 g3 => h3 H3 ((e.trans e2).trans e3) _ fun H4 e4 => hs a b H4 (((e.trans e2).trans e3).trans e4) (e4 _ _ (e3 _ _ g2)) (e4 _ _ g3) H4 (Ex.refl H4) Q (fun H5 e5 => q H5 ((e2.trans e3).trans (e4.trans e5))) E
theorem ev_callVVU {σ : L2.St} {H : Hp} {sp : Sp} {E : XK} {ta tb tc : TE} {zs : List V} {x y v : V} (h1 : Ev ta σ H x) (h2 : Ev tb σ H y) (h3 : EvU tc σ H zs) (hs : ∀ p H1, Ex H H1 → H1 p = some (.tup zs) → SpV sp [x, y, .ref p] H1 v) : Ev (tCall sp [] E (tCons ta (tCons tb (tCons tc tNil)))) σ H v := fun H1 e Q q =>
  h1 H1 e _ fun H2 e2 => h2 H2 (e.trans e2) _ fun H3 e3 => h3 H3 ((e.trans e2).trans e3) _ fun a H4 ha e4 g4 => hs a H4 (((e.trans e2).trans e3).trans e4) g4 H4 (Ex.refl H4) Q (fun H5 e5 => q H5 ((e2.trans e3).trans (e4.trans e5))) E
theorem eu_callUU {σ : L2.St} {H : Hp} {sp : Sp} {E : XK} {ta tb : TE} {xs ys zs : List V} (h1 : EvU ta σ H xs) (h2 : EvU tb σ H ys) (hs : ∀ p q H1, Ex H H1 → H1 p = some (.tup xs) → H1 q = some (.tup ys) → SpU sp [.ref p, .ref q] H1 zs) : EvU (tCall sp [] E (tCons ta (tCons tb tNil))) σ H zs := fun H1 e Q q =>
  h1 H1 e _ fun a H2 ha e2 g2 => h2 H2 (e.trans e2) _ fun b H3 hb e3 g3 => hs a b H3 ((e.trans e2).trans e3) (e3 _ _ g2) g3 H3 (Ex.refl H3) Q (fun p H4 hp e4 g4 => q p H4 (fresh_back (e2.trans e3) hp) ((e2.trans e3).trans e4) g4) E
theorem eu_callUVt {σ : L2.St} {H : Hp} {sp : Sp} {E : XK} {ta tb : TE} {xs zs : List V} {y : V} (h1 : EvU ta σ H xs) (h2 : Ev tb σ H y) (hs : ∀ p H1, Ex H H1 → H1 p = some (.tup xs) → SpU sp [.ref p, y] H1 zs) : EvU (tCall sp [] E (tCons ta (tCons tb tNil))) σ H zs := fun H1 e Q q =>
  h1 H1 e _ fun a H2 ha e2 g2 => h2 H2 (e.trans e2) _ fun H3 e3 => hs a H3 ((e.trans e2).trans e3) (e3 _ _ g2) H3 (Ex.refl H3) Q (fun p H4 hp e4 g4 => q p H4 (fresh_back (e2.trans e3) hp) ((e2.trans e3).trans e4) g4) E
theorem eu_callVUt {σ : L2.St} {H : Hp} {sp : Sp} {E : XK} {ta tb : TE} {xs zs : List V} {y : V} (h1 : Ev ta σ H y) (h2 : EvU tb σ H xs) (hs : ∀ p H1, Ex H H1 → H1 p = some (.tup xs) → SpU sp [y, .ref p] H1 zs) : EvU (tCall sp [] E (tCons ta (tCons tb tNil))) σ H zs := fun H1 e Q q =>
  h1 H1 e _ fun H2 e2 => h2 H2 (e.trans e2) _ fun a H3 ha e3 g3 => hs a H3 ((e.trans e2).trans e3) g3 H3 (Ex.refl H3) Q (fun p H4 hp e4 g4 => q p H4 (fresh_back (e2.trans e3) hp) ((e2.trans e3).trans e4) g4) E
theorem eu_callU1 {σ : L2.St} {H : Hp} {sp : Sp} {E : XK} {ta : TE} {xs zs : List V} (h1 : EvU ta σ H xs) (hs : ∀ p H1, Ex H H1 → H1 p = some (.tup xs) → SpU sp [.ref p] H1 zs) : EvU (tCall sp [] E (tCons ta tNil)) σ H zs := fun H1 e Q q =>
  h1 H1 e _ fun a H2 ha e2 g2 => hs a H2 (e.trans e2) g2 H2 (Ex.refl H2) Q (fun p H4 hp e4 g4 => q p H4 (fresh_back e2 hp) (e2.trans e4) g4) E
theorem rv_eqTT {K : PySem.W.Frag} {H : Hp} {p q : Addr} {ns ms : List Int} (h : SqT K H p (vi ns)) (h' : SqT K H q (vi ms)) : RV (rEqD K) (.ref p) (.ref q) H (.bl (decide (ns = ms))) := fun H1 e Q k =>
  ⟨_, _, dp_tup (ex_t e h), dp_tup (ex_t e h'), shaped_t ns, shaped_t ms, by rw [eqv_t]; exact k H1 (Ex.refl H1)⟩
theorem ev_eqUU {K : PySem.W.Frag} {σ : L2.St} {H : Hp} {ta tb : TE} {ns ms : List Int} (ha : EvU ta σ H (vi ns)) (hb : EvU tb σ H (vi ms)) : Ev (tOp (rEqD K) ta tb) σ H (.bl (decide (ns = ms))) := fun H1 e Q k =>
  ha H1 e _ fun p H2 hp e2 h2 => hb H2 (e.trans e2) _ fun q H3 hq e3 h3 => rv_eqTT (st_of (e3 _ _ h2)) (st_of h3) H3 (Ex.refl H3) Q fun H4 e4 => k H4 ((e2.trans e3).trans e4)

theorem ev_somP {σ : L2.St} {H : Hp} {ta : TE} {P : V → Hp → Prop} (h : EvP ta σ H P) (hp : ∀ v H1, P v H1 → v ≠ .non) : Ev (tOp (fun x y H Q => y = V.non ∧ Q (V.bl (!decide (x = V.non))) H) ta (tC .non)) σ H (.bl true) := fun H1 e Q q => h H1 e _ fun v H2 e2 pv => ⟨rfl, by
  have := hp v H2 pv
  rw [decide_eq_false this]
  exact q H2 e2⟩
theorem lead_some {ds es : List Int} {v : V} {H : Hp} (c : lensL ds = lensL es) (h : LeadV ds es v H) : v ≠ .non := by
  unfold LeadV at h
  rw [if_pos c] at h
  obtain ⟨p, F, rfl, _⟩ := h
  exact fun z => nomatch z
theorem pair_shf {xs ys : List Int} (hx : Shf xs) (hy : Shf ys) (h : xs.length * ys.length ≤ 300) : Shf (pairL xs ys) := by
  have p0 : 0 < xs.length * ys.length := Nat.mul_pos hx.1 hy.1
  have hy0 := hy.1
  refine ⟨by rw [pairL_length]; exact p0, by rw [pairL_length]; exact h, ?_⟩
  rw [pairL_length]
  refine perm_iota ?_ ?_ (pairL_length xs ys)
  · show List.Pairwise _ _
    unfold pairL
    refine List.pairwise_map.mpr (List.Pairwise.imp_of_mem ?_ List.nodup_range)
    intro p q hp hq hne e
    have hp := List.mem_range.mp hp
    have hq := List.mem_range.mp hq
    have dp : p / ys.length < xs.length := Nat.div_lt_of_lt_mul (by rw [Nat.mul_comm]; exact hp)
    have dq : q / ys.length < xs.length := Nat.div_lt_of_lt_mul (by rw [Nat.mul_comm]; exact hq)
    have mp : p % ys.length < ys.length := Nat.mod_lt _ hy0
    have mq : q % ys.length < ys.length := Nat.mod_lt _ hy0
    rw [nx_get hx dp, nx_get hx dq, nx_get hy mp, nx_get hy mq, ← Int.natCast_mul, ← Int.natCast_mul, ← Int.natCast_add, ← Int.natCast_add] at e
    have e := Int.ofNat.inj e
    have lp := nx_lt hy mp
    have lq := nx_lt hy mq
    have a1 : (nx xs (p / ys.length) * ys.length + nx ys (p % ys.length)) / ys.length = (nx xs (q / ys.length) * ys.length + nx ys (q % ys.length)) / ys.length := by rw [e]
    have a2 : (nx xs (p / ys.length) * ys.length + nx ys (p % ys.length)) % ys.length = (nx xs (q / ys.length) * ys.length + nx ys (q % ys.length)) % ys.length := by rw [e]
    rw [Nat.mul_comm, Nat.mul_add_div hy0, Nat.div_eq_of_lt lp, Nat.mul_comm, Nat.mul_add_div hy0, Nat.div_eq_of_lt lq, Nat.add_zero, Nat.add_zero] at a1
    rw [Nat.mul_comm, Nat.mul_add_mod, Nat.mod_eq_of_lt lp, Nat.mul_comm, Nat.mul_add_mod, Nat.mod_eq_of_lt lq] at a2
    have b1 := nx_inj hx dp dq a1
    have b2 := nx_inj hy mp mq a2
    exact hne (by rw [← Nat.div_add_mod p ys.length, b1, b2, Nat.div_add_mod])
  · intro x hx'
    obtain ⟨p, hp, rfl⟩ := List.mem_map.mp hx'
    obtain ⟨a0, a1⟩ := Shf.getD_lt hx (p / ys.length)
    obtain ⟨b0, b1⟩ := Shf.getD_lt hy (p % ys.length)
    obtain ⟨c0, c1⟩ := pair_lt a0 a1 b0 b1
    rw [Int.natCast_mul]
    exact ⟨c0, c1⟩
def mulL (xs ys : List Int) : List Int := tabL (min xs.length ys.length) fun i => xs.getD i 0 * ys.getD i 0
def eachL (r : List Int) (c : Nat) : List Int := tabL (r.length / c) fun i => r.getD ((i + 1) * c - 1) 0

/-! ### sums -/
def sm (f : Nat → Int) : Nat → Int
  | 0 => 0
  | n + 1 => sm f n + f n
theorem sm_congr {f g : Nat → Int} : ∀ {n : Nat}, (∀ j, j < n → f j = g j) → sm f n = sm g n
  | 0, _ => rfl
  | n + 1, h => by
    show sm f n + f n = sm g n + g n
    rw [sm_congr fun j hj => h j (by omega), h n (by omega)]
theorem sm_zero {f : Nat → Int} {n : Nat} (h : ∀ j, j < n → f j = 0) : sm f n = 0 := by
  rw [sm_congr (g := fun _ => 0) h]
  clear h
  induction n with
  | zero => rfl
  | succ n ih => show sm _ n + 0 = 0; rw [ih]; rfl
theorem sm_add (f g : Nat → Int) : ∀ n, sm (fun j => f j + g j) n = sm f n + sm g n
  | 0 => rfl
  | n + 1 => by
    show sm (fun j => f j + g j) n + (f n + g n) = sm f n + f n + (sm g n + g n)
    rw [sm_add f g n]
    omega
theorem sm_mul (c : Int) (f : Nat → Int) : ∀ n, sm (fun j => c * f j) n = c * sm f n
  | 0 => (Int.mul_zero c).symm
  | n + 1 => by
    show sm (fun j => c * f j) n + c * f n = c * (sm f n + f n)
    rw [sm_mul c f n, Int.mul_add]
theorem sm_swap (f : Nat → Nat → Int) (m : Nat) : ∀ n, sm (fun a => sm (fun b => f a b) m) n = sm (fun b => sm (fun a => f a b) n) m
  | 0 => (sm_zero fun _ _ => rfl).symm
  | n + 1 => by
    show sm (fun a => sm (fun b => f a b) m) n + sm (fun b => f n b) m = sm (fun b => sm (fun a => f a b) n + f n b) m
    rw [sm_swap f m n, sm_add]
theorem sm_one (f : Nat → Int) (t : Nat) : ∀ n, sm (fun j => if j = t then f j else 0) n = if t < n then f t else 0
  | 0 => (if_neg (Nat.not_lt_zero _)).symm
  | n + 1 => by
    show sm (fun j => if j = t then f j else 0) n + (if n = t then f n else 0) = _
    rw [sm_one f t n]
    by_cases c : n = t
    · rw [c, if_neg (Nat.lt_irrefl _), if_pos rfl, if_pos (by omega), Int.zero_add]
    · rw [if_neg c, Int.add_zero]
      by_cases d : t < n
      · rw [if_pos d, if_pos (by omega)]
      · rw [if_neg d, if_neg (by omega)]
theorem part_sm (c : List Int) (i : Nat) : ∀ k, part c i k = sm (fun j => if (i + 1) % (j + 1) = 0 then ((j + 1 : Nat) : Int) * c.getD j 0 else 0) k
  | 0 => rfl
  | k + 1 => by
    show part c i k + _ = sm _ k + _
    rw [part_sm c i k]
/-- the number at n of the row of the rings c -/
def rw (c : List Int) (n : Nat) : Int := sm (fun l => if n % (l + 1) = 0 then ((l + 1 : Nat) : Int) * c.getD l 0 else 0) c.length
theorem row_rw {c : List Int} {i : Nat} (h : i < c.length) : (rowL c).getD i 0 = rw c (i + 1) := by
  unfold rowL rw
  rw [tab_getD h, ← part_stay c i (show i + 1 ≤ c.length by omega), part_sm]
/-- rings of the product -/
def prC (c d : List Int) (a b i : Nat) : Int := if Nat.lcm (a + 1) (b + 1) = i + 1 then (Nat.gcd (a + 1) (b + 1) : Int) * c.getD a 0 * d.getD b 0 else 0
def pairC (c d : List Int) (m : Nat) : List Int := tabL m fun i => sm (fun a => sm (fun b => prC c d a b i) d.length) c.length
theorem inner_lcm (n L m : Nat) (g : Int) (hL : 1 ≤ L) (hm : n % L = 0 → L ≤ m) : sm (fun j => if n % (j + 1) = 0 then ((j + 1 : Nat) : Int) * (if L = j + 1 then g else 0) else 0) m = if n % L = 0 then (L : Int) * g else 0 := by
  have e : ∀ j, (if n % (j + 1) = 0 then ((j + 1 : Nat) : Int) * (if L = j + 1 then g else 0) else 0) = (if j = L - 1 then (if n % (j + 1) = 0 then ((j + 1 : Nat) : Int) * g else 0) else 0) := fun j => by
    by_cases c : L = j + 1
    · rw [if_pos c, if_pos (show j = L - 1 by omega)]
    · rw [if_neg c, Int.mul_zero, if_neg (show ¬ j = L - 1 by omega)]
      split <;> rfl
  rw [sm_congr fun j _ => e j, sm_one]
  by_cases c : n % L = 0
  · rw [if_pos (by have := hm c; omega), show L - 1 + 1 = L by omega, if_pos c]
  · rw [show L - 1 + 1 = L by omega, if_neg c]
    split <;> rfl
theorem lcm_mod {n a b : Nat} : n % Nat.lcm a b = 0 ↔ n % a = 0 ∧ n % b = 0 := by
  rw [← Nat.dvd_iff_mod_eq_zero, ← Nat.dvd_iff_mod_eq_zero, ← Nat.dvd_iff_mod_eq_zero]
  exact ⟨fun h => ⟨Nat.dvd_trans (Nat.dvd_lcm_left a b) h, Nat.dvd_trans (Nat.dvd_lcm_right a b) h⟩, fun h => Nat.lcm_dvd h.1 h.2⟩
theorem rw_pair {c d : List Int} {m n : Nat} (hm : ∀ a b, a < c.length → b < d.length → c.getD a 0 ≠ 0 → d.getD b 0 ≠ 0 → n % Nat.lcm (a + 1) (b + 1) = 0 → Nat.lcm (a + 1) (b + 1) ≤ m) : rw (pairC c d m) n = rw c n * rw d n := by
  have ll : (pairC c d m).length = m := tab_length _ _
  have s1 : rw (pairC c d m) n = sm (fun a => sm (fun b => sm (fun j => if n % (j + 1) = 0 then ((j + 1 : Nat) : Int) * prC c d a b j else 0) m) d.length) c.length := by
    unfold rw
    rw [ll]
    have e : ∀ j, j < m → (if n % (j + 1) = 0 then ((j + 1 : Nat) : Int) * (pairC c d m).getD j 0 else 0) = sm (fun a => sm (fun b => if n % (j + 1) = 0 then ((j + 1 : Nat) : Int) * prC c d a b j else 0) d.length) c.length := fun j hj => by
      unfold pairC
      rw [tab_getD hj]
      by_cases c0 : n % (j + 1) = 0
      · rw [if_pos c0, ← sm_mul]
        refine sm_congr fun a _ => ?_
        rw [← sm_mul]
        exact sm_congr fun b _ => (if_pos c0).symm
      · rw [if_neg c0]
        exact (sm_zero fun a _ => sm_zero fun b _ => if_neg c0).symm
    rw [sm_congr e, sm_swap (fun j a => sm (fun b => if n % (j + 1) = 0 then ((j + 1 : Nat) : Int) * prC c d a b j else 0) d.length)]
    exact sm_congr fun a _ => sm_swap (fun j b => if n % (j + 1) = 0 then ((j + 1 : Nat) : Int) * prC c d a b j else 0) d.length m
  rw [s1]
  unfold rw
  rw [← sm_mul]
  have s2 : ∀ a b, a < c.length → b < d.length → sm (fun j => if n % (j + 1) = 0 then ((j + 1 : Nat) : Int) * prC c d a b j else 0) m = (if n % (a + 1) = 0 then ((a + 1 : Nat) : Int) * c.getD a 0 else 0) * (if n % (b + 1) = 0 then ((b + 1 : Nat) : Int) * d.getD b 0 else 0) := fun a b ha hb => by
    unfold prC
    by_cases z1 : c.getD a 0 = 0
    · rw [z1]
      simp only [Int.mul_zero, Int.zero_mul, ite_self]
      exact sm_zero fun _ _ => rfl
    by_cases z2 : d.getD b 0 = 0
    · rw [z2]
      simp only [Int.mul_zero, Int.zero_mul, ite_self]
      exact sm_zero fun _ _ => rfl
    rw [inner_lcm n (Nat.lcm (a + 1) (b + 1)) m _ (Nat.lcm_pos (by omega) (by omega)) (hm a b ha hb z1 z2)]
    by_cases c1 : n % (a + 1) = 0
    · by_cases c2 : n % (b + 1) = 0
      · rw [if_pos c1, if_pos c2, if_pos (lcm_mod.mpr ⟨c1, c2⟩)]
        have e : (Nat.lcm (a + 1) (b + 1) : Int) * (Nat.gcd (a + 1) (b + 1) : Int) = ((a + 1 : Nat) : Int) * ((b + 1 : Nat) : Int) := by
          rw [← Int.natCast_mul, ← Int.natCast_mul, Nat.mul_comm, Nat.gcd_mul_lcm]
        rw [Int.mul_assoc (Nat.gcd (a + 1) (b + 1) : Int), ← Int.mul_assoc (Nat.lcm (a + 1) (b + 1) : Int), e, Int.mul_assoc, Int.mul_assoc, Int.mul_left_comm ((b + 1 : Nat) : Int)]
      · rw [if_neg c2, Int.mul_zero, if_neg fun z => c2 (lcm_mod.mp z).2]
    · rw [if_neg c1, Int.zero_mul, if_neg fun z => c1 (lcm_mod.mp z).1]
  have s3 : ∀ a, a < c.length → sm (fun b => sm (fun j => if n % (j + 1) = 0 then ((j + 1 : Nat) : Int) * prC c d a b j else 0) m) d.length = (if n % (a + 1) = 0 then ((a + 1 : Nat) : Int) * c.getD a 0 else 0) * sm (fun b => if n % (b + 1) = 0 then ((b + 1 : Nat) : Int) * d.getD b 0 else 0) d.length := fun a ha => by
    rw [← sm_mul]
    exact sm_congr fun b hb => s2 a b ha hb
  rw [sm_congr s3]
  have s4 : ∀ (X : Int) (f : Nat → Int) (k : Nat), sm (fun a => f a * X) k = sm (fun a => X * f a) k := fun X f k => sm_congr fun a _ => Int.mul_comm _ _
  rw [s4, sm_mul, sm_mul, Int.mul_comm]
theorem mul_row {c d : List Int} (h : d.length = c.length) : mulL (rowL c) (rowL d) = rowL (pairC c d c.length) := by
  unfold mulL
  have l1 := rowL_length c
  have l2 := rowL_length d
  have l3 : (pairC c d c.length).length = c.length := tab_length _ _
  rw [l1, l2, h, Nat.min_self]
  show _ = tabL (pairC c d c.length).length _
  rw [l3]
  refine tab_congr fun i hi => ?_
  have e := row_rw (c := pairC c d c.length) (i := i) (by omega)
  unfold rowL at e
  rw [l3, tab_getD hi] at e
  rw [e, row_rw hi, row_rw (by omega), rw_pair]
  intro a b _ _ _ _ z
  have := Nat.le_of_dvd (by omega) (Nat.dvd_of_mod_eq_zero z)
  omega
/-- rings of every so many -/
def fallC (c : List Int) (s m : Nat) : List Int := tabL m fun i => sm (fun l => if (l + 1) / Nat.gcd (l + 1) s = i + 1 then (Nat.gcd (l + 1) s : Int) * c.getD l 0 else 0) c.length
theorem fall_dvd {l s n : Nat} (hs : 1 ≤ s) : (n * s) % (l + 1) = 0 ↔ n % ((l + 1) / Nat.gcd (l + 1) s) = 0 := by
  have g0 : 0 < Nat.gcd (l + 1) s := Nat.gcd_pos_of_pos_left _ (by omega)
  obtain ⟨p, hp⟩ := Nat.gcd_dvd_left (l + 1) s
  obtain ⟨q, hq⟩ := Nat.gcd_dvd_right (l + 1) s
  have co := Nat.coprime_div_gcd_div_gcd (m := l + 1) (n := s) g0
  have ep : (l + 1) / Nat.gcd (l + 1) s = p := by
    conv => lhs; rw [hp]; arg 2; rw [← hp]
    exact Nat.mul_div_cancel_left p g0
  have eq : s / Nat.gcd (l + 1) s = q := by
    conv => lhs; rw [hq]; arg 2; rw [← hq]
    exact Nat.mul_div_cancel_left q g0
  rw [ep, eq] at co
  rw [ep, ← Nat.dvd_iff_mod_eq_zero, ← Nat.dvd_iff_mod_eq_zero]
  clear ep eq
  generalize Nat.gcd (l + 1) s = g at *
  rw [hp, hq]
  constructor
  · intro h
    rw [Nat.mul_left_comm] at h
    exact co.dvd_of_dvd_mul_right (Nat.dvd_of_mul_dvd_mul_left g0 h)
  · rintro ⟨r, rfl⟩
    exact ⟨r * q, by rw [Nat.mul_assoc, Nat.mul_left_comm r, Nat.mul_left_comm p, Nat.mul_assoc]⟩
theorem rw_fall {c : List Int} {s m n : Nat} (hs : 1 ≤ s) (hn : ∀ l, l < c.length → n % ((l + 1) / Nat.gcd (l + 1) s) = 0 → (l + 1) / Nat.gcd (l + 1) s ≤ m) : rw (fallC c s m) n = rw c (n * s) := by
  have ll : (fallC c s m).length = m := tab_length _ _
  unfold rw
  rw [ll]
  have e : ∀ j, j < m → (if n % (j + 1) = 0 then ((j + 1 : Nat) : Int) * (fallC c s m).getD j 0 else 0) = sm (fun l => if n % (j + 1) = 0 then ((j + 1 : Nat) : Int) * (if (l + 1) / Nat.gcd (l + 1) s = j + 1 then (Nat.gcd (l + 1) s : Int) * c.getD l 0 else 0) else 0) c.length := fun j hj => by
    unfold fallC
    rw [tab_getD hj]
    by_cases c0 : n % (j + 1) = 0
    · rw [if_pos c0, ← sm_mul]
      exact sm_congr fun l _ => (if_pos c0).symm
    · rw [if_neg c0]
      exact (sm_zero fun l _ => if_neg c0).symm
  rw [sm_congr e, sm_swap (fun j l => if n % (j + 1) = 0 then ((j + 1 : Nat) : Int) * (if (l + 1) / Nat.gcd (l + 1) s = j + 1 then (Nat.gcd (l + 1) s : Int) * c.getD l 0 else 0) else 0)]
  refine sm_congr fun l hl => ?_
  have g0 : 0 < Nat.gcd (l + 1) s := Nat.gcd_pos_of_pos_left _ (by omega)
  have gl : Nat.gcd (l + 1) s * ((l + 1) / Nat.gcd (l + 1) s) = l + 1 := Nat.mul_div_cancel' (Nat.gcd_dvd_left _ _)
  have L1 : 1 ≤ (l + 1) / Nat.gcd (l + 1) s := Nat.div_pos (Nat.le_of_dvd (by omega) (Nat.gcd_dvd_left _ _)) g0
  rw [inner_lcm n _ m _ L1 (hn l hl)]
  by_cases c1 : n % ((l + 1) / Nat.gcd (l + 1) s) = 0
  · rw [if_pos c1, if_pos ((fall_dvd hs).mpr c1), ← Int.mul_assoc, ← Int.natCast_mul, Nat.mul_comm, gl]
  · rw [if_neg c1, if_neg fun z => c1 ((fall_dvd hs).mp z)]
theorem each_row {c : List Int} {s : Nat} (hs : 1 ≤ s) : eachL (rowL c) s = rowL (fallC c s (c.length / s)) := by
  unfold eachL
  have l1 := rowL_length c
  have l3 : (fallC c s (c.length / s)).length = c.length / s := tab_length _ _
  rw [l1]
  show _ = tabL (fallC c s (c.length / s)).length _
  rw [l3]
  refine tab_congr fun i hi => ?_
  have e := row_rw (c := fallC c s (c.length / s)) (i := i) (by omega)
  unfold rowL at e
  rw [l3, tab_getD hi] at e
  have b : (i + 1) * s ≤ c.length := by
    have := (Nat.le_div_iff_mul_le (by omega)).mp (show i + 1 ≤ c.length / s by omega)
    exact this
  have p : 1 ≤ (i + 1) * s := Nat.mul_pos (by omega) hs
  rw [e, row_rw (by omega), rw_fall hs, show (i + 1) * s - 1 + 1 = (i + 1) * s by omega]
  intro l hl z
  have := Nat.le_of_dvd (by omega) (Nat.dvd_of_mod_eq_zero z)
  omega
theorem add_row {c d : List Int} (h : d.length = c.length) : addL (rowL c) (rowL d) = rowL (addL c d) := by
  unfold addL
  have l1 := rowL_length c
  have l2 := rowL_length d
  rw [l1, l2, h, Nat.min_self]
  show _ = tabL (tabL c.length _).length _
  rw [tab_length]
  refine tab_congr fun i hi => ?_
  have e := row_rw (c := tabL c.length fun i => c.getD i 0 + d.getD i 0) (i := i) (by rw [tab_length]; exact hi)
  unfold rowL at e
  rw [tab_length, tab_getD hi] at e
  rw [e, row_rw hi, row_rw (by omega)]
  unfold rw
  rw [tab_length, h, ← sm_add]
  refine sm_congr fun l hl => ?_
  rw [tab_getD hl]
  by_cases c0 : (i + 1) % (l + 1) = 0
  · rw [if_pos c0, if_pos c0, if_pos c0, Int.mul_add]
  · rw [if_neg c0, if_neg c0, if_neg c0]
    rfl

/-! ### lengths told -/
def toldN (c : List Int) : List Nat := ((List.range c.length).map fun k => List.replicate (c.getD k 0).toNat (k + 1)).flatten
def toldL (c : List Int) : List Int := up (toldN c)
theorem told_sorted (c : List Int) : (toldL c).Pairwise (· ≤ ·) := by
  have go : ∀ m, (((List.range m).map fun k => List.replicate (c.getD k 0).toNat (k + 1)).flatten).Pairwise (· ≤ ·) ∧ ∀ x ∈ ((List.range m).map fun k => List.replicate (c.getD k 0).toNat (k + 1)).flatten, x ≤ m := by
    intro m
    induction m with
    | zero => exact ⟨List.Pairwise.nil, fun x h => nomatch h⟩
    | succ m ih =>
      rw [List.range_succ, List.map_append, List.flatten_append]
      show ((_ ++ (List.replicate (c.getD m 0).toNat (m + 1) ++ [])).Pairwise _) ∧ _
      refine ⟨List.pairwise_append.mpr ⟨ih.1, by rw [List.append_nil]; exact List.pairwise_replicate.mpr (.inr (Nat.le_refl _)), fun x hx y hy => ?_⟩, fun x hx => ?_⟩
      · rw [List.append_nil] at hy
        rw [List.eq_of_mem_replicate hy]
        have := ih.2 x hx
        omega
      · rcases List.mem_append.mp hx with h | h
        · have := ih.2 x h
          omega
        · have h : x ∈ List.replicate (c.getD m 0).toNat (m + 1) ++ [] := h
          rw [List.append_nil] at h
          rw [List.eq_of_mem_replicate h]
          exact Nat.le_refl _
  unfold toldL up toldN
  rw [List.pairwise_map]
  exact (go c.length).1.imp fun h => Int.ofNat_le.mpr h
theorem told_sum {c : List Int} (hc : ∀ k, 0 ≤ c.getD k 0) (t : Nat) : ((toldL c).filter fun l => decide ((t : Int) % l = 0)).sum = rw c t := by
  unfold toldL toldN rw
  generalize c.length = m
  induction m with
  | zero => rfl
  | succ m ih =>
    rw [List.range_succ, List.map_append, List.flatten_append]
    unfold up at ih ⊢
    rw [List.map_append, List.filter_append, List.sum_append, ih]
    show _ + ((List.map (fun k : Nat => (k : Int)) (List.replicate (c.getD m 0).toNat (m + 1) ++ [])).filter _).sum = sm _ m + (if t % (m + 1) = 0 then ((m + 1 : Nat) : Int) * c.getD m 0 else 0)
    congr 1
    rw [List.append_nil, List.map_replicate]
    have e : ((t : Int) % ((m + 1 : Nat) : Int) = 0) ↔ t % (m + 1) = 0 := by
      rw [← Int.natCast_emod]
      omega
    have rs : ∀ n : Nat, (List.replicate n ((m + 1 : Nat) : Int)).sum = ((m + 1 : Nat) : Int) * (n : Int) := fun n => by
      induction n with
      | zero => rw [List.replicate_zero]; exact (Int.mul_zero _).symm
      | succ n ih =>
        have e1 : ((n + 1 : Nat) : Int) = (n : Int) + 1 := rfl
        rw [List.replicate_succ, List.sum_cons, ih, e1, Int.mul_add, Int.mul_one]
        omega
    by_cases d : t % (m + 1) = 0
    · rw [if_pos d, List.filter_eq_self.mpr (fun x hx => by rw [List.eq_of_mem_replicate hx]; exact decide_eq_true (e.mpr d)), rs, Int.toNat_of_nonneg (hc m)]
    · rw [if_neg d, List.filter_eq_nil_iff.mpr (fun x hx => by rw [List.eq_of_mem_replicate hx]; simpa using fun z => d (e.mp z))]
      rfl
theorem cnt_told {ds c : List Int} (hs : Shf ds) (hc : ∀ k, 0 ≤ c.getD k 0) (h : lensL ds = toldL c) (t : Nat) : (cnt ds t : Int) = rw c t := by
  rw [← back_cnt hs (rings_of hs) t, h, told_sum hc]
theorem told_count {c : List Int} (k : Nat) : (toldL c).count ((k + 1 : Nat) : Int) = if k < c.length then (c.getD k 0).toNat else 0 := by
  unfold toldL toldN
  rw [up_count, count_reps]
  by_cases h : k < c.length
  · rw [if_pos (by omega), if_pos h, Nat.add_sub_cancel]
  · rw [if_neg (by omega), if_neg h]
theorem told_pos {c : List Int} : ∀ l ∈ toldL c, 1 ≤ l ∧ l ≤ c.length := fun l hl => by
  unfold toldL up at hl
  obtain ⟨x, hx, rfl⟩ := List.mem_map.mp hl
  unfold toldN at hx
  obtain ⟨r, hr, hxr⟩ := List.mem_flatten.mp hx
  obtain ⟨k, hk, rfl⟩ := List.mem_map.mp hr
  have hk := List.mem_range.mp hk
  rw [List.eq_of_mem_replicate hxr]
  omega
theorem low_sum (m : Nat) : ∀ {L : List Int}, (∀ l ∈ L, 1 ≤ l) → ths (cntL L m) m ≤ L.sum ∧ (ths (cntL L m) m = L.sum → ∀ l ∈ L, l ≤ m)
  | [], _ => by
    have : ∀ k, k ≤ m → ths (cntL [] m) k = 0 := by
      intro k
      induction k with
      | zero => intro _; rfl
      | succ k ih =>
        intro h
        show ths (cntL [] m) k + (1 + (k : Int)) * (cntL [] m).getD k 0 = 0
        have e2 : (cntL [] m).getD k 0 = (([] : List Int).count ((k + 1 : Nat) : Int) : Int) := tab_getD (by omega)
        rw [ih (by omega), e2]
        simp
    rw [this m (Nat.le_refl _)]
    exact ⟨Int.le_refl _, fun _ l h => nomatch h⟩
  | l :: L, h => by
    have hl := h l (List.mem_cons_self ..)
    obtain ⟨i1, i2⟩ := low_sum m (L := L) fun x hx => h x (List.mem_cons_of_mem _ hx)
    rw [ths_cons l L m hl m (Nat.le_refl _), List.sum_cons]
    by_cases c : l ≤ (m : Int)
    · rw [if_pos c]
      refine ⟨by omega, fun e x hx => ?_⟩
      rcases List.mem_cons.mp hx with rfl | hx
      · exact c
      · exact i2 (by omega) x hx
    · rw [if_neg c]
      exact ⟨by omega, fun e => absurd e (by omega)⟩
theorem rw_zero (c : List Int) : rw c 0 = ths c c.length := by
  unfold rw
  have : ∀ n, sm (fun l => if 0 % (l + 1) = 0 then ((l + 1 : Nat) : Int) * c.getD l 0 else 0) n = ths c n := fun n => by
    induction n with
    | zero => rfl
    | succ n ih =>
      show sm _ n + (if 0 % (n + 1) = 0 then ((n + 1 : Nat) : Int) * c.getD n 0 else 0) = ths c n + (1 + (n : Int)) * c.getD n 0
      rw [ih, if_pos (Nat.zero_mod _), show ((n + 1 : Nat) : Int) = 1 + (n : Int) by omega]
  exact this _
/-- a shuffle whose row is that of the rings c has those rings -/
theorem lens_told {ds c : List Int} (hs : Shf ds) (hc : ∀ k, 0 ≤ c.getD k 0) (h : ∀ t, t ≤ c.length → (cnt ds t : Int) = rw c t) : lensL ds = toldL c := by
  have rd := rings_of hs
  have e1 : rowL c = rowL (cntL (lensL ds) c.length) := by
    rw [← back_rowL hs, back_tab]
    show tabL c.length _ = _
    refine tab_congr fun i hi => ?_
    rw [h (i + 1) (by omega), ← row_rw hi]
    unfold rowL
    rw [tab_getD hi]
  have e2 : c = cntL (lensL ds) c.length := by
    have := congrArg ringsR e1
    rwa [rings_row, rings_row] at this
  have e3 : ths (cntL (lensL ds) c.length) c.length = (lensL ds).sum := by
    rw [← e2, ← rw_zero, ← h 0 (Nat.zero_le _), lens_total hs]
    have e2 : cnt ds 0 = ds.length := by
      unfold cnt
      have e5 : ((List.range ds.length).filter fun k => decide (orb ds k 0 = k)) = List.range ds.length := List.filter_eq_self.mpr fun k _ => decide_eq_true rfl
      rw [e5, List.length_range]
    rw [e2]
  have le := (low_sum c.length (L := lensL ds) fun l hl => (lens_mem rd hl).1).2 e3
  refine sorted_unique (List.perm_iff_count.mpr fun v => ?_) (lens_sorted ds) (told_sorted c)
  by_cases hv : 1 ≤ v ∧ v ≤ (c.length : Int)
  · obtain ⟨k, rfl⟩ : ∃ k : Nat, v = ((k + 1 : Nat) : Int) := ⟨(v - 1).toNat, by omega⟩
    rw [told_count, if_pos (by omega)]
    have e4 : c.getD k 0 = ((lensL ds).count ((k + 1 : Nat) : Int) : Int) := by
      rw [e2]
      exact tab_getD (by omega)
    omega
  · rw [List.count_eq_zero.mpr fun z => hv ⟨(lens_mem rd z).1, le v z⟩, List.count_eq_zero.mpr fun z => hv (told_pos v z)]
theorem lens_due {c : List Int} (nn : ∀ x ∈ c, 0 ≤ x) (t1 : 1 ≤ ths c c.length) (t2 : ths c c.length ≤ 300) : lensL (dueL c c.length) = toldL c := by
  have hs := due_shf nn t1 t2
  obtain ⟨S, h1, h2⟩ := side_due c c.length
  have rs : Rings (dueL c c.length) S (dueL c c.length).length := ⟨h1.1, by rw [h1.2]; exact List.nodup_range, fun i hi => by rw [h1.2]; exact List.mem_range.mpr hi⟩
  have hc : ∀ k, 0 ≤ c.getD k 0 := fun k => by
    rw [List.getD_eq_getElem?_getD]
    cases g : c[k]? with
    | none => exact Int.le_refl _
    | some z => exact nn z (List.mem_of_getElem? g)
  refine lens_told hs hc fun t _ => ?_
  rw [any_cnt hs rs, h2]
  exact told_sum hc t
theorem turn_lens {ds c : List Int} {m s : Nat} (hs : Shf ds) (hc : ∀ k, 0 ≤ c.getD k 0) (h : lensL ds = toldL c) (hl : c.length ≤ m) (s0 : 1 ≤ s) (nn : ∀ k, 0 ≤ (fallC c s m).getD k 0) : lensL (turnL ds (s : Int)) = toldL (fallC c s m) := by
  refine lens_told (turn_shf hs _) nn fun t _ => ?_
  rw [cnt_turn hs, cnt_told hs hc h, rw_fall s0, Nat.mul_comm]
  intro l hl' _
  have := Nat.div_le_self (l + 1) (Nat.gcd (l + 1) s)
  omega
theorem tn_self {ds : List Int} (hs : Shf ds) (u : Int) {i : Nat} (hi : i < ds.length) : tn ds u i = i ↔ u % (per ds i : Int) = 0 := by
  obtain ⟨p1, p2⟩ := per_pos hs hi
  have h0 := Int.emod_nonneg u (show (per ds i : Int) ≠ 0 by omega)
  have h1 := Int.emod_lt_of_pos u (show (0 : Int) < (per ds i : Int) by omega)
  unfold tn
  rw [orb_back hs hi, Nat.mod_eq_of_lt (by omega)]
  omega
theorem turn_neg {ds : List Int} (hs : Shf ds) (s : Nat) : lensL (turnL ds (-(s : Int))) = lensL (turnL ds (s : Int)) := by
  refine (rows_lens (turn_shf hs _) (turn_shf hs _) (by rw [turn_length, turn_length])).mp ?_
  unfold backL
  refine List.map_congr_left fun t _ => ?_
  unfold cnt
  rw [turn_length, turn_length]
  congr 1
  refine List.filter_congr fun k hk => ?_
  have hk := List.mem_range.mp hk
  refine decide_eq_decide.mpr ?_
  rw [orb_turnI hs _ hk, orb_turnI hs _ hk, tn_self hs _ hk, tn_self hs _ hk, Int.neg_mul]
  exact ⟨fun h => Int.emod_eq_zero_of_dvd ((Int.dvd_neg).mp (Int.dvd_of_emod_eq_zero h)), fun h => Int.emod_eq_zero_of_dvd ((Int.dvd_neg).mpr (Int.dvd_of_emod_eq_zero h))⟩

theorem q_asg2L {te tu : TE} {σ : L2.St} {H : Hp} {D : Ends} {tz : TS} {i : Nat} {xs ys : List V} (h1 : EvL te σ H xs) (h2 : EvL tu σ H ys) (k : ∀ p p1 p2 H1, H p = none → H p1 = none → H p2 = none → Ex H H1 → H1 p = some (.lst [.ref p1, .ref p2]) → H1 p1 = some (.lst xs) → H1 p2 = some (.lst ys) → tz D (σ.set i (some (.ref p))) H1) : tSeq (tAsg (tLst (tCons te (tCons tu tNil))) (gName i)) tz D σ H :=
  h1 H (Ex.refl H) _ fun p1 H1 f1 e1 a1 => h2 H1 e1 _ fun p2 H2 f2 e2 a2 => ⟨sz_of (by show 2 ≤ 100000; decide), fun p hp => k p p1 p2 _ (fresh_back (e1.trans e2) hp) f1 (fresh_back e1 f2) ((e1.trans e2).trans (Ex.new hp)) upd_same (Ex.new hp _ _ (e2 _ _ a1)) (Ex.new hp _ _ a2)⟩
theorem lcm_place (x y : Nat) : ((x + 1) / Nat.gcd (x + 1) (y + 1)) * (y + 1) = Nat.lcm (x + 1) (y + 1) := by
  unfold Nat.lcm
  exact Nat.div_mul_right_comm (Nat.gcd_dvd_left _ _) _
theorem pairC_nn {c d : List Int} {m : Nat} (hc : ∀ x ∈ c, 0 ≤ x) (hd : ∀ x ∈ d, 0 ≤ x) : ∀ x ∈ pairC c d m, 0 ≤ x := fun x hx => by
  have gd : ∀ {l : List Int}, (∀ x ∈ l, 0 ≤ x) → ∀ k, 0 ≤ l.getD k 0 := fun {l} hl k => by
    rw [List.getD_eq_getElem?_getD]
    cases g : l[k]? with
    | none => exact Int.le_refl _
    | some z => exact hl z (List.mem_of_getElem? g)
  have nn : ∀ (f : Nat → Int) n, (∀ j, 0 ≤ f j) → 0 ≤ sm f n := fun f n hf => by
    induction n with
    | zero => exact Int.le_refl _
    | succ n ih => exact Int.add_nonneg ih (hf n)
  unfold pairC tabL at hx
  obtain ⟨i, _, rfl⟩ := List.mem_map.mp hx
  refine nn _ _ fun a => nn _ _ fun b => ?_
  unfold prC
  split
  · exact Int.mul_nonneg (Int.mul_nonneg (by omega) (gd hc a)) (gd hd b)
  · exact Int.le_refl _
theorem fallC_nn {c : List Int} {s m : Nat} (hc : ∀ x ∈ c, 0 ≤ x) : ∀ x ∈ fallC c s m, 0 ≤ x := fun x hx => by
  have gd : ∀ k, 0 ≤ c.getD k 0 := fun k => by
    rw [List.getD_eq_getElem?_getD]
    cases g : c[k]? with
    | none => exact Int.le_refl _
    | some z => exact hc z (List.mem_of_getElem? g)
  have nn : ∀ (f : Nat → Int) n, (∀ j, 0 ≤ f j) → 0 ≤ sm f n := fun f n hf => by
    induction n with
    | zero => exact Int.le_refl _
    | succ n ih => exact Int.add_nonneg ih (hf n)
  unfold fallC tabL at hx
  obtain ⟨i, _, rfl⟩ := List.mem_map.mp hx
  refine nn _ _ fun l => ?_
  split
  · exact Int.mul_nonneg (by omega) (gd l)
  · exact Int.le_refl _
theorem addL_nn {c d : List Int} (hc : ∀ x ∈ c, 0 ≤ x) (hd : ∀ x ∈ d, 0 ≤ x) : ∀ x ∈ addL c d, 0 ≤ x := fun x hx => by
  have gd : ∀ {l : List Int}, (∀ x ∈ l, 0 ≤ x) → ∀ k, 0 ≤ l.getD k 0 := fun {l} hl k => by
    rw [List.getD_eq_getElem?_getD]
    cases g : l[k]? with
    | none => exact Int.le_refl _
    | some z => exact hl z (List.mem_of_getElem? g)
  unfold addL tabL at hx
  obtain ⟨i, _, rfl⟩ := List.mem_map.mp hx
  exact Int.add_nonneg (gd hc i) (gd hd i)
section
variable {K : PySem.W.Frag} {σ : L2.St} {H : Hp} {t : TT} {te : TE}
/-- [e for i, x in enumerate(xs) if ..] of pure parts -/
theorem lc_Ite {a : Addr} {xs : List V} {i j : Nat} {vs : List Nat} {H1 : Hp} {Dl : Addr} {Qd : Hp → Prop} (f : Nat → Bool) (v : Nat → V) (hD : H1 Dl = none) (hx : SqL K H1 a xs) (hz : xs.length ≤ 40000)
    (hw : ∀ x y, wipe (((wipe σ vs).set i (some x)).set j (some y)) vs = wipe σ vs)
    (ht : ∀ (n : Nat) x H2, Ex H1 H2 → xs[n]? = some x → EvT t (((wipe σ vs).set i (some (.int (n : Nat)))).set j (some x)) H2 (f n))
    (he : ∀ (n : Nat) x H2, Ex H1 H2 → xs[n]? = some x → f n = true → Ev te (((wipe σ vs).set i (some (.int (n : Nat)))).set j (some x)) H2 (v n)) (hd : ∀ H', Cw H1 f v Dl xs.length H' → Qd H') :
    ∃ W : Nat → Nat → Hp → Prop, (∃ m, W 0 m (upd H1 Dl (.lst []))) ∧ ∀ n m H, W n m H →
      ((Ite K a).stop n H ∧ Qd H) ∨ ((Ite K a).go n H ∧ ∃ Nx : Hp → Prop, (∀ H', Nx H' → ∃ m', m' < m ∧ W (n + 1) m' H') ∧ ∀ x H', (Ite K a).yld n H x H' → g2 K i j x (wipe σ vs) H' fun σ2 H2 => wipe σ2 vs = wipe σ vs ∧ t σ2 H2 fun b H3 =>
        if b = true then te σ2 H3 fun y H4 => ∃ acc, H4 Dl = some (.lst acc) ∧ acc.length < sizeLine ∧ Nx (upd H4 Dl (.lst (acc ++ [y]))) else Nx H3) := by
  refine ⟨fun n m H => m = xs.length - n ∧ n ≤ xs.length ∧ Cw H1 f v Dl n H, ⟨xs.length, by simp, Nat.zero_le _, hD, Ex.new hD, upd_same⟩, ?_⟩
  rintro n m H ⟨rfl, hi, p⟩
  have q := ex_l p.2.1 hx
  by_cases hlt : n < xs.length
  · refine .inr ⟨⟨xs, xs[n], q, by simp [hlt]⟩, Cw H1 f v Dl (n + 1), fun H' p' => ⟨xs.length - (n + 1), by omega, rfl, hlt, p'⟩, ?_⟩
    rintro w H' ⟨T, x, rfl, nT, rfl, hg⟩
    have e1 := Ex.new (o := .tup [.int (n : Nat), x]) nT
    have gx := hg xs q
    refine g2_go upd_same ⟨hw _ _, cw_turn ⟨p.1, p.2.1.trans e1, e1 _ _ p.2.2⟩ (by omega) (ht n x H1 (Ex.refl H1) gx) (he n x H1 (Ex.refl H1) gx)⟩
  · have e : n = xs.length := by omega
    subst e
    exact .inl ⟨⟨xs, q, Nat.le_refl _⟩, hd H p⟩
theorem el_lcNEn {xs : List V} {tl : TE} {i j : Nat} {vs : List Nat} (f : Nat → Bool) (v : Nat → V) (h : EvL tl σ H xs) (hz : xs.length ≤ 40000)
    (hw : ∀ x y, wipe (((wipe σ vs).set i (some x)).set j (some y)) vs = wipe σ vs)
    (ht : ∀ (n : Nat) x H1, Ex H H1 → xs[n]? = some x → EvT t (((wipe σ vs).set i (some (.int (n : Nat)))).set j (some x)) H1 (f n))
    (he : ∀ (n : Nat) x H1, Ex H H1 → xs[n]? = some x → f n = true → Ev te (((wipe σ vs).set i (some (.int (n : Nat)))).set j (some x)) H1 (v n)) :
    EvL (tLc (iEnum K (tCons tl tNil)) (g2 K i j) t te vs) σ H (given xs.length f v) := fun H0 e Q q => h H0 e _ fun a H1 ha e1 h1 => ⟨a, xs, rfl, sq_of h1, fun Dl hD =>
  lc_Ite f v hD (sq_of h1) hz hw (fun n x H2 e2 gx => ht n x H2 ((e.trans e1).trans e2) gx) (fun n x H2 e2 gx hf => he n x H2 ((e.trans e1).trans e2) gx hf) fun H' p => q Dl H' (fresh_back e1 p.1) (e1.trans p.2.1) p.2.2⟩
theorem el_lcEn {a : Addr} {xs : List V} {tl : TE} {i j : Nat} {vs : List Nat} (f : Nat → Bool) (v : Nat → V) (h : Ev tl σ H (.ref a)) (hx : SqL K H a xs) (hz : xs.length ≤ 40000)
    (hw : ∀ x y, wipe (((wipe σ vs).set i (some x)).set j (some y)) vs = wipe σ vs)
    (ht : ∀ (n : Nat) x H1, Ex H H1 → xs[n]? = some x → EvT t (((wipe σ vs).set i (some (.int (n : Nat)))).set j (some x)) H1 (f n))
    (he : ∀ (n : Nat) x H1, Ex H H1 → xs[n]? = some x → f n = true → Ev te (((wipe σ vs).set i (some (.int (n : Nat)))).set j (some x)) H1 (v n)) :
    EvL (tLc (iEnum K (tCons tl tNil)) (g2 K i j) t te vs) σ H (given xs.length f v) := fun H0 e Q q => h H0 e _ fun H1 e1 => ⟨a, xs, rfl, ex_l (e.trans e1) hx, fun Dl hD =>
  lc_Ite f v hD (ex_l (e.trans e1) hx) hz hw (fun n x H2 e2 gx => ht n x H2 ((e.trans e1).trans e2) gx) (fun n x H2 e2 gx hf => he n x H2 ((e.trans e1).trans e2) gx hf) fun H' p => q Dl H' (fresh_back e1 p.1) (e1.trans p.2.1) p.2.2⟩
end
theorem q_forEn {K : PySem.W.Frag} {σ : L2.St} {H : Hp} {D : Ends} {tu tz : TS} {a : Addr} {xs : List V} {tl : TE} {i j : Nat} (h : Ev tl σ H (.ref a)) (hx : SqL K H a xs) (Pv : Nat → L2.St → Hp → Prop) (h0 : ∀ H1, Ex H H1 → Pv 0 σ H1) (hl : ∀ n σ' H', n ≤ xs.length → Pv n σ' H' → SqL K H' a xs)
    (hs : ∀ n x σ' H', xs[n]? = some x → Pv n σ' H' → ∀ H1, Ex H' H1 → tu { D with nx := Pv (n + 1), ct := Pv (n + 1), bk := tz D } ((σ'.set i (some (.int (n : Nat)))).set j (some x)) H1) (hd : ∀ σ' H', Pv xs.length σ' H' → tz D σ' H') :
    tSeq (tFor (iEnum K (tCons tl tNil)) (g2 K i j) tu) tz D σ H := s_forEn (D := { D with nx := tz D }) h hx Pv h0 hl hs hd
theorem q_par3LLD {K : PySem.W.Frag} {σ : L2.St} {H : Hp} {D : Ends} {tz : TS} {ta tb : TE} {i j l : Nat} {xs ys : List V} (h1 : EvL ta σ H xs) (h2 : EvL tb σ H ys) (k : ∀ p1 p2 p3 H1, H p1 = none → H p2 = none → H p3 = none → p1 ≠ p2 → Ex H H1 → H1 p1 = some (.lst xs) → H1 p2 = some (.lst ys) → H1 p3 = some (.dK []) → tz D (((σ.set i (some (.ref p1))).set j (some (.ref p2))).set l (some (.ref p3))) H1) :
    tSeq (tAsg (tTup (tCons ta (tCons tb (tCons tDNewK tNil)))) (gTup K 3 (gCons (gName i) (gCons (gName j) (gCons (gName l) gNil))))) tz D σ H :=
  h1 H (Ex.refl H) _ fun p1 H1 f1 e1 a1 => h2 H1 e1 _ fun p2 H2 f2 e2 a2 p3 hp3 => ⟨sz_of (by show 3 ≤ 100000; decide), fun r hr => ⟨r, _, rfl, st_of upd_same, rfl, _, _, rfl, _, _, rfl, _, _, rfl, rfl,
    k p1 p2 p3 _ f1 (fresh_back e1 f2) (fresh_back (e1.trans e2) hp3) (ne_of_none a1 f2) (((e1.trans e2).trans (Ex.new hp3)).trans (Ex.new hr)) (Ex.new hr _ _ (Ex.new hp3 _ _ (e2 _ _ a1))) (Ex.new hr _ _ (Ex.new hp3 _ _ a2)) (Ex.new hr _ _ upd_same)⟩⟩
theorem ev_dget {σ : L2.St} {H : Hp} {td ty : TE} {d : Addr} {kvs : List (Key × V)} {k : Key} {v : V} (hd : Ev td σ H (.ref d)) (g : H d = some (.dK kvs)) (hk : Ev ty σ H (kV k)) (hv : valV kvs k = some v) : Ev (tDGet td ty) σ H v := fun H1 e Q q =>
  hd H1 e _ fun H2 e2 => hk H2 (e.trans e2) _ fun H3 e3 => ⟨d, v, rfl, by rw [← hv]; exact DGet.k ((e.trans (e2.trans e3)) _ _ g), q H3 (e2.trans e3)⟩
/-! ### a shuffle laid out by names -/
theorem blk_nx (acc : List Int) {n k : Nat} (hk : k < n) : nx (acc ++ blk acc.length n) (acc.length + k) = acc.length + (k + 1) % n := by
  unfold nx
  rw [List.getD_eq_getElem?_getD, List.getElem?_append_right (by omega), Nat.add_sub_cancel_left]
  unfold blk
  by_cases c : k + 1 = n
  · rw [List.getElem?_append_right (by simp; omega), List.length_map, List.length_range, show k - (n - 1) = 0 by omega, c, Nat.mod_self]
    show ((acc.length : Int)).toNat = _
    omega
  · rw [List.getElem?_append_left (by simp; omega), List.getElem?_map, List.getElem?_range (by omega), Nat.mod_eq_of_lt (by omega)]
    show ((acc.length : Int) + (1 + (k : Int))).toNat = _
    omega
theorem acc_nx (acc l : List Int) {p : Nat} (hp : p < acc.length) : nx (acc ++ l) p = nx acc p := by
  unfold nx
  rw [List.getD_eq_getElem?_getD, List.getElem?_append_left hp, ← List.getD_eq_getElem?_getD]
/-- the first m places of E are laid by the names ns -/
def DI (kvs : List (Key × V)) (ns E : List Int) (m : Nat) : Prop := kvs.length ≤ m ∧ ∀ p, p < m → valV kvs (.inl (ns.getD p 0)) = some (.int (ns.getD (nx E p) 0))
theorem DI.put {kvs : List (Key × V)} {ns E : List Int} {m : Nat} (h : DI kvs ns E m) (hn : Shf ns) (hm : m < ns.length) : DI (putK kvs (.inl (ns.getD m 0)) (.int (ns.getD (nx E m) 0))) ns E (m + 1) := by
  refine ⟨by have := length_putK kvs (.inl (ns.getD m 0)) (.int (ns.getD (nx E m) 0)); have := h.1; omega, fun p hp => ?_⟩
  rw [valV_put]
  by_cases c : p = m
  · rw [c, if_pos rfl]
  · rw [if_neg fun z => c (Shf.inj hn (by omega) hm (Sum.inl.inj z)), h.2 p (by omega)]
theorem DI.ext {kvs : List (Key × V)} {ns E F : List Int} {m : Nat} (h : DI kvs ns E m) (e : ∀ p, p < m → nx F p = nx E p) : DI kvs ns F m := ⟨h.1, fun p hp => by rw [h.2 p hp, e p hp]⟩
def layL (ns E : List Int) (kvs : List (Key × V)) : List Int := tabL ns.length fun p => match valV kvs (.inl (p : Int)) with
  | some (.int v) => v
  | _ => 0
theorem lay_ok {kvs : List (Key × V)} {ns E : List Int} (hn : Shf ns) (hE : Shf E) (hl : ns.length = E.length) (h : DI kvs ns E E.length) : Shf (layL ns E kvs) ∧ lensL (layL ns E kvs) = lensL E ∧ (layL ns E kvs).length = E.length ∧ ∀ p, p < E.length → ∃ v, valV kvs (.inl (p : Int)) = some (.int v) ∧ (layL ns E kvs).getD p 0 = v := by
  have ll : (layL ns E kvs).length = E.length := by rw [← hl]; exact tab_length _ _
  have at' : ∀ q, q < E.length → valV kvs (.inl ((nx ns q : Nat) : Int)) = some (.int (ns.getD (nx E q) 0)) := fun q hq => by
    have e := Shf.getD_lt hn q
    rw [← h.2 q hq]
    congr 2
    unfold nx
    omega
  have val : ∀ q, q < E.length → (layL ns E kvs).getD (nx ns q) 0 = ns.getD (nx E q) 0 := fun q hq => by
    have lt := nx_lt hn (i := q) (by omega)
    unfold layL
    rw [tab_getD lt, at' q hq]
  have sur : ∀ p, p < E.length → ∃ q, q < E.length ∧ nx ns q = p := fun p hp => by
    have pm := nat_perm hn.2.2
    rw [← nx_list] at pm
    have : p ∈ (List.range ns.length).map (nx ns) := pm.mem_iff.mpr (List.mem_range.mpr (by omega))
    obtain ⟨q, hq, e⟩ := List.mem_map.mp this
    exact ⟨q, by have := List.mem_range.mp hq; omega, e⟩
  have li : LInv (anewS ns E.length) (anewT E ns E.length) E.length (layL ns E kvs) E.length := by
    refine ⟨ll, fun t x y ht hx hy => ?_⟩
    unfold anewS at hx
    unfold anewT at hy
    rw [List.getElem?_map, List.getElem?_range ht] at hx hy
    cases hx
    cases hy
    have lt := nx_lt hn (i := t) (by omega)
    rw [List.getElem?_eq_getElem (by omega)]
    have v := val t ht
    rw [List.getD_eq_getElem?_getD, List.getElem?_eq_getElem (by omega)] at v
    have v : (layL ns E kvs)[nx ns t]'(by omega) = ns.getD (nx E t) 0 := v
    rw [v]
    congr 1
    have e := Shf.getD_lt hn (nx E t)
    show _ = (((ns.getD (nx E t) 0).toNat : Nat) : Int)
    omega
  have sF := anew_shf hE hn rfl hl li
  refine ⟨sF, (led_lens hE sF ll ⟨hn, hl, fun x hx => ?_⟩).symm, ll, fun p hp => ?_⟩
  · show ((layL ns E kvs).getD (nx ns x) 0).toNat = (ns.getD (nx E x) 0).toNat
    rw [val x hx]
  · obtain ⟨q, hq, rfl⟩ := sur p hp
    exact ⟨_, at' q hq, val q hq⟩
/-- lists of counts -/
def CtsN (c : List Int) : Prop := c.length = 4 ∧ (∀ x ∈ c, 0 ≤ x ∧ x ≤ 2) ∧ 1 ≤ ths c c.length
theorem cts_sum {c : List Int} (h1 : c.length = 4) (h2 : ∀ x ∈ c, 0 ≤ x ∧ x ≤ 2) (h3 : 0 < c.sum) : CtsN c := by
  obtain ⟨w, x, y, z, rfl⟩ : ∃ w x y z, c = [w, x, y, z] := match c, h1 with
    | [w, x, y, z], _ => ⟨w, x, y, z, rfl⟩
  have a0 := h2 w (by simp)
  have a1 := h2 x (by simp)
  have a2 := h2 y (by simp)
  have a3 := h2 z (by simp)
  refine ⟨rfl, h2, ?_⟩
  have h3 : 0 < w + (x + (y + (z + 0))) := h3
  show 1 ≤ 0 + (1 + ((0 : Nat) : Int)) * w + (1 + ((1 : Nat) : Int)) * x + (1 + ((2 : Nat) : Int)) * y + (1 + ((3 : Nat) : Int)) * z
  omega
def Som (H : Hp) (a s : Addr) (bs : List Addr) (cs : List (List Int)) : Prop := bs.length = cs.length ∧ ∀ (j : Nat) (b : Addr) (c : List Int), bs[j]? = some b → cs[j]? = some c → H b = some (.lst (vi c)) ∧ CtsN c ∧ b ≠ a ∧ b ≠ s
theorem Som.but {H H' : Hp} {a s : Addr} {bs : List Addr} {cs : List (List Int)} (h : Som H a s bs cs) (b : But a H H') : Som H' a s bs cs := ⟨h.1, fun j p c x y => by
  obtain ⟨g, k, n, m⟩ := h.2 j p c x y
  exact ⟨b _ _ n g, k, n, m⟩⟩
theorem Som.upd {H : Hp} {a s : Addr} {o : HO} {bs : List Addr} {cs : List (List Int)} (h : Som H a s bs cs) : Som (upd H s o) a s bs cs := ⟨h.1, fun j p c x y => by
  obtain ⟨g, k, n, m⟩ := h.2 j p c x y
  exact ⟨by rw [upd_ne m]; exact g, k, n, m⟩⟩
theorem Som.snoc {H : Hp} {a s b : Addr} {c : List Int} {bs : List Addr} {cs : List (List Int)} (h : Som H a s bs cs) (g : H b = some (.lst (vi c))) (k : CtsN c) (n : b ≠ a) (m : b ≠ s) : Som H a s (bs ++ [b]) (cs ++ [c]) := by
  refine ⟨by rw [List.length_append, List.length_append, h.1]; rfl, fun j p d x y => ?_⟩
  by_cases z : j < bs.length
  · rw [List.getElem?_append_left z] at x
    rw [List.getElem?_append_left (by rw [← h.1]; exact z)] at y
    exact h.2 j p d x y
  · rw [List.getElem?_append_right (by omega)] at x
    rw [List.getElem?_append_right (by rw [← h.1]; omega)] at y
    have e : j - bs.length = 0 := by
      have := (List.getElem?_eq_some_iff.mp x).1
      simp at this
      omega
    rw [e] at x
    rw [← h.1, e] at y
    cases x
    cases y
    exact ⟨g, k, n, m⟩
/-- [e for x in xs], each item with what it leaves behind -/
theorem q_lcI {K : PySem.W.Frag} {σ : L2.St} {H : Hp} {D : Ends} {tz : TS} {tl te : TE} {b : Addr} {xs : List V} {i j : Nat} {ws : List Nat} (hl : Ev tl σ H (.ref b)) (hb : H b = some (.lst xs)) (hw : ∀ x, wipe ((wipe σ ws).set j (some x)) ws = wipe σ ws) (hz : xs.length ≤ 1000) (I : Addr → Nat → List V → Hp → Prop)
    (h0 : ∀ Dl H1, Ex H H1 → H1 Dl = none → I Dl 0 [] (upd H1 Dl (.lst []))) (hI : ∀ Dl m acc H', I Dl m acc H' → SqL K H' b xs)
    (hs : ∀ Dl m acc x H', xs[m]? = some x → I Dl m acc H' → te ((wipe σ ws).set j (some x)) H' fun y H4 => ∃ acc', H4 Dl = some (.lst acc') ∧ acc'.length < sizeLine ∧ ∃ acc'', I Dl (m + 1) acc'' (upd H4 Dl (.lst (acc' ++ [y]))))
    (hd : ∀ Dl acc H', I Dl xs.length acc H' → tz D (σ.set i (some (.ref Dl))) H') : tSeq (tAsg (tLc (iList K tl) (gName j) tYes te ws) (gName i)) tz D σ H :=
  hl H (Ex.refl H) _ fun H1 e1 => ⟨b, rfl, ⟨xs, sq_of (e1 _ _ hb)⟩, fun Dl hD => lc_list (xs := xs) (fun m H' => ∃ acc, I Dl m acc H') ⟨[], h0 Dl H1 e1 hD⟩ (fun m H' _ ⟨acc, p⟩ => hI Dl m acc H' p) (fun m x H' hx ⟨acc, p⟩ => ⟨hw x, iteT (B := ∃ acc, I Dl (m + 1) acc H') (hs Dl m acc x H' hx p)⟩) (fun H' ⟨acc, p⟩ => hd Dl acc H' p)⟩
theorem sm_tail (f : Nat → Int) (n : Nat) : ∀ k, (∀ j, n ≤ j → f j = 0) → sm f (n + k) = sm f n
  | 0, _ => rfl
  | k + 1, h => by
    show sm f (n + k) + f (n + k) = _
    rw [sm_tail f n k h, h (n + k) (by omega), Int.add_zero]
theorem rw_pad (c : List Int) (k t : Nat) : rw (c ++ List.replicate k 0) t = rw c t := by
  unfold rw
  rw [List.length_append, List.length_replicate, sm_tail]
  · refine sm_congr fun l hl => ?_
    rw [List.getD_eq_getElem?_getD, List.getElem?_append_left hl, ← List.getD_eq_getElem?_getD]
  · intro j hj
    have e : (c ++ List.replicate k (0 : Int)).getD j 0 = 0 := by
      rw [List.getD_eq_getElem?_getD, List.getElem?_append_right hj]
      cases g : (List.replicate k (0 : Int))[j - c.length]? with
      | none => rfl
      | some z => rw [List.eq_of_mem_replicate (List.mem_of_getElem? g)]; rfl
    rw [e, Int.mul_zero]
    split <;> rfl
theorem pad_zero {c : List Int} {k a : Nat} (h : (c ++ List.replicate k (0 : Int)).getD a 0 ≠ 0) : a < c.length := by
  refine Nat.lt_of_not_le fun hj => h ?_
  rw [List.getD_eq_getElem?_getD, List.getElem?_append_right hj]
  cases g : (List.replicate k (0 : Int))[a - c.length]? with
  | none => rfl
  | some z => rw [List.eq_of_mem_replicate (List.mem_of_getElem? g)]; rfl
theorem rw_add {c d : List Int} (h : d.length = c.length) (t : Nat) : rw (addL c d) t = rw c t + rw d t := by
  unfold rw addL
  rw [tab_length, h, Nat.min_self, ← sm_add]
  refine sm_congr fun l hl => ?_
  rw [tab_getD hl]
  by_cases c0 : t % (l + 1) = 0
  · rw [if_pos c0, if_pos c0, if_pos c0, Int.mul_add]
  · rw [if_neg c0, if_neg c0, if_neg c0]
    rfl
theorem back_told {ds c : List Int} (h : ∀ t, t ≤ c.length → (cnt ds t : Int) = rw c t) : up (backL ds c.length) = rowL c := by
  rw [back_tab]
  show tabL c.length _ = tabL c.length _
  refine tab_congr fun i hi => ?_
  have e := row_rw hi
  unfold rowL at e
  rw [tab_getD hi] at e
  rw [h (i + 1) (by omega), e]
theorem getD_nn' {c : List Int} (h : ∀ x ∈ c, 0 ≤ x) (k : Nat) : 0 ≤ c.getD k 0 := by
  rw [List.getD_eq_getElem?_getD]
  cases g : c[k]? with
  | none => exact Int.le_refl _
  | some z => exact h z (List.mem_of_getElem? g)
/-- a shuffle of the rings c -/
def OfC (ds c : List Int) : Prop := Shf ds ∧ lensL ds = toldL c ∧ (ds.length : Int) = ths c c.length
theorem OfC.cnt {ds c : List Int} (h : OfC ds c) (k : CtsN c) (t : Nat) : (cnt ds t : Int) = rw c t := cnt_told h.1 (getD_nn' fun x hx => (k.2.1 x hx).1) h.2.1 t
def w8 (c : List Int) : List Int := c ++ List.replicate 8 0
theorem lcm12 : ∀ a, a < 4 → ∀ b, b < 4 → Nat.lcm (a + 1) (b + 1) ≤ 12 := by decide
theorem pair_cnt {d1 d2 c1 c2 : List Int} (h1 : OfC d1 c1) (h2 : OfC d2 c2) (k1 : CtsN c1) (k2 : CtsN c2) (t : Nat) : (cnt (pairL d1 d2) t : Int) = rw (pairC (w8 c1) (w8 c2) 12) t := by
  rw [cnt_pair h1.1 h2.1, Int.natCast_mul, h1.cnt k1, h2.cnt k2, rw_pair, w8, w8, rw_pad, rw_pad]
  intro a b _ _ za zb _
  have l1 := pad_zero za
  have l2 := pad_zero zb
  rw [k1.1] at l1
  rw [k2.1] at l2
  exact lcm12 a l1 b l2
theorem w8_nn {c : List Int} (k : CtsN c) : ∀ x ∈ w8 c, 0 ≤ x ∧ x ≤ 2 := fun x hx => by
  rcases List.mem_append.mp hx with h | h
  · exact k.2.1 x h
  · rw [List.eq_of_mem_replicate h]
    exact ⟨by decide, by decide⟩
theorem w8_length {c : List Int} (k : CtsN c) : (w8 c).length = 12 := by
  unfold w8
  rw [List.length_append, List.length_replicate, k.1]
theorem fall_of {ds c : List Int} (h : OfC ds c) (k : CtsN c) {s : Nat} (s0 : 1 ≤ s) (t : Int) (ht : t = s ∨ t = -(s : Int)) : OfC (turnL ds t) (fallC c s 4) := by
  have cn : ∀ x ∈ c, 0 ≤ x := fun x hx => (k.2.1 x hx).1
  have nn := fallC_nn (s := s) (m := 4) cn
  have e : lensL (turnL ds (s : Int)) = toldL (fallC c s 4) := turn_lens h.1 (getD_nn' cn) h.2.1 (by rw [k.1]; exact Nat.le_refl _) s0 (getD_nn' nn)
  have z : ths (fallC c s 4) (fallC c s 4).length = ths c c.length := by
    rw [← rw_zero, ← rw_zero, rw_fall s0, Nat.zero_mul]
    intro l hl _
    have := Nat.div_le_self (l + 1) (Nat.gcd (l + 1) s)
    rw [k.1] at hl
    omega
  rcases ht with rfl | rfl
  · exact ⟨turn_shf h.1 _, e, by rw [turn_length, z]; exact h.2.2⟩
  · exact ⟨turn_shf h.1 _, (turn_neg h.1 s).trans e, by rw [turn_length, z]; exact h.2.2⟩
theorem turn_none {ds : List Int} (hs : Shf ds) : OfC (turnL ds 0) [(ds.length : Int), 0, 0, 0] := by
  have z : ∀ t, rw [(ds.length : Int), 0, 0, 0] t = ds.length := fun t => by
    show 0 + (if t % (0 + 1) = 0 then ((0 + 1 : Nat) : Int) * (ds.length : Int) else 0) + (if t % (1 + 1) = 0 then ((1 + 1 : Nat) : Int) * 0 else 0) + (if t % (2 + 1) = 0 then ((2 + 1 : Nat) : Int) * 0 else 0) + (if t % (3 + 1) = 0 then ((3 + 1 : Nat) : Int) * 0 else 0) = _
    rw [if_pos (Nat.mod_one t)]
    simp
  refine ⟨turn_shf hs 0, lens_told (turn_shf hs 0) (getD_nn' ?_) fun t _ => ?_, ?_⟩
  · intro x hx
    simp only [List.mem_cons, List.not_mem_nil, or_false] at hx
    rcases hx with rfl | rfl | rfl | rfl <;> omega
  · have := cnt_turn hs 0 t
    rw [Nat.zero_mul] at this
    have e0 : cnt ds 0 = ds.length := by
      unfold cnt
      have e5 : ((List.range ds.length).filter fun k => decide (orb ds k 0 = k)) = List.range ds.length := List.filter_eq_self.mpr fun k _ => decide_eq_true rfl
      rw [e5, List.length_range]
    rw [z]
    show (cnt (turnL ds ((0 : Nat) : Int)) t : Int) = _
    rw [this, e0]
  · rw [turn_length, ← rw_zero, z]
theorem OfC.bound {ds c : List Int} (h : OfC ds c) (nn : ∀ x ∈ c, 0 ≤ x) : ∀ x ∈ c, 0 ≤ x ∧ x ≤ 400 := fun x hx => by
  obtain ⟨i, hi, rfl⟩ := List.getElem_of_mem hx
  have h0 := nn _ hx
  have e : c.getD i 0 = c[i] := by
    rw [List.getD_eq_getElem?_getD, List.getElem?_eq_getElem hi]
    rfl
  have h1 := ths_le nn i c.length hi
  rw [e, ← h.2.2] at h1
  have h2 := h.1.2.1
  have h3 : 1 * c[i] ≤ (1 + (i : Int)) * c[i] := Int.mul_le_mul_of_nonneg_right (by omega) h0
  omega
theorem ofc_pair {d1 d2 c1 c2 : List Int} (h1 : OfC d1 c1) (h2 : OfC d2 c2) (k1 : CtsN c1) (k2 : CtsN c2) (l : d1.length * d2.length ≤ 300) : OfC (pairL d1 d2) (pairC (w8 c1) (w8 c2) 12) := by
  have nn := pairC_nn (m := 12) (fun x hx => (w8_nn k1 x hx).1) (fun x hx => (w8_nn k2 x hx).1)
  refine ⟨pair_shf h1.1 h2.1 l, lens_told (pair_shf h1.1 h2.1 l) (getD_nn' nn) fun t _ => pair_cnt h1 h2 k1 k2 t, ?_⟩
  have e0 : ∀ {ds : List Int}, cnt ds 0 = ds.length := fun {ds} => by
    unfold cnt
    have e5 : ((List.range ds.length).filter fun k => decide (orb ds k 0 = k)) = List.range ds.length := List.filter_eq_self.mpr fun k _ => decide_eq_true rfl
    rw [e5, List.length_range]
  rw [← rw_zero, ← pair_cnt h1 h2 k1 k2, e0]
theorem ofc_bes {d1 d2 c1 c2 : List Int} (h1 : OfC d1 c1) (h2 : OfC d2 c2) (k1 : CtsN c1) (k2 : CtsN c2) (l : d1.length + d2.length ≤ 300) : OfC (besL d1 d2) (addL c1 c2) := by
  have nn := addL_nn (c := c1) (d := c2) (fun x hx => (k1.2.1 x hx).1) (fun x hx => (k2.2.1 x hx).1)
  have e : ∀ t, (cnt (besL d1 d2) t : Int) = rw (addL c1 c2) t := fun t => by
    rw [cnt_bes h1.1 h2.1, rw_add (by rw [k1.1, k2.1]), Int.natCast_add, h1.cnt k1, h2.cnt k2]
  refine ⟨bes_shf h1.1 h2.1 l, lens_told (bes_shf h1.1 h2.1 l) (getD_nn' nn) fun t _ => e t, ?_⟩
  rw [← rw_zero, rw_add (by rw [k1.1, k2.1]), rw_zero, rw_zero, besL_length, ← h1.2.2, ← h2.2.2, Int.natCast_add]
theorem small200 {c : List Int} (h : ∀ x ∈ c, 0 ≤ x ∧ x ≤ 2) (i : Nat) : (c.getD i 0).natAbs < 2 ^ 200 := by
  have e2 : (2 : Nat) ^ 200 = 1606938044258990275541962092341162602522202993782792835301376 := by decide
  rw [e2, List.getD_eq_getElem?_getD]
  cases g : c[i]? with
  | none => decide
  | some z =>
    have := h z (List.mem_of_getElem? g)
    show z.natAbs < _
    omega
theorem cts_len {ds c : List Int} (h : OfC ds c) (k : CtsN c) : ds.length ≤ 20 := by
  obtain ⟨w, x, y, z, rfl⟩ : ∃ w x y z, c = [w, x, y, z] := match c, k.1 with
    | [w, x, y, z], _ => ⟨w, x, y, z, rfl⟩
  have a0 := k.2.1 w (by simp)
  have a1 := k.2.1 x (by simp)
  have a2 := k.2.1 y (by simp)
  have a3 := k.2.1 z (by simp)
  have e : (ds.length : Int) = 0 + (1 + ((0 : Nat) : Int)) * w + (1 + ((1 : Nat) : Int)) * x + (1 + ((2 : Nat) : Int)) * y + (1 + ((3 : Nat) : Int)) * z := h.2.2
  omega
def fOf (ds c : List Int) (t : Int) : List Int := if t = 0 then [(ds.length : Int), 0, 0, 0] else fallC c t.natAbs 4
theorem fOf_ok {ds c : List Int} (h : OfC ds c) (k : CtsN c) (t : Int) : OfC (turnL ds t) (fOf ds c t) ∧ (fOf ds c t).length = 4 ∧ ∀ x ∈ fOf ds c t, 0 ≤ x := by
  unfold fOf
  by_cases z : t = 0
  · rw [if_pos z, z]
    refine ⟨turn_none h.1, rfl, fun x hx => ?_⟩
    simp only [List.mem_cons, List.not_mem_nil, or_false] at hx
    rcases hx with rfl | rfl | rfl | rfl <;> omega
  · rw [if_neg z]
    exact ⟨fall_of h k (by omega) t (by omega), tab_length _ _, fallC_nn fun x hx => (k.2.1 x hx).1⟩
theorem el_callU' {σ : L2.St} {H : Hp} {te : TE} {sp : Sp} {E : XK} {xs ys : List V} (h : EvU te σ H xs) (hs : ∀ p H1, Ex H H1 → H1 p = some (.tup xs) → SpL sp [.ref p] H1 ys) : EvL (tCall sp [] E (tCons te tNil)) σ H ys := fun H1 e Q q =>
  h H1 e _ fun p H2 hp e2 g2 => hs p H2 (e.trans e2) g2 H2 (Ex.refl H2) Q (fun r H3 hr e3 g3 => q r H3 (fresh_back e2 hr) (e2.trans e3) g3) E
theorem ep_callVU' {σ : L2.St} {H : Hp} {ta tb : TE} {sp : Sp} {E : XK} {x : V} {ys : List V} {PV : V → Hp → Prop} (h1 : Ev ta σ H x) (h2 : EvU tb σ H ys) (hs : ∀ p H1, Ex H H1 → H1 p = some (.tup ys) → SpP sp [x, .ref p] H1 PV) : EvP (tCall sp [] E (tCons ta (tCons tb tNil))) σ H PV := fun H1 e Q q =>
  h1 H1 e _ fun H2 e2 => h2 H2 (e.trans e2) _ fun p H3 hp e3 g3 => hs p H3 ((e.trans e2).trans e3) g3 H3 (Ex.refl H3) Q (fun v H4 e4 pv => q v H4 ((e2.trans e3).trans e4) pv) E
theorem el_ifT {t : TT} {ta tb : TE} {σ : L2.St} {H : Hp} {xs : List V} (ht : EvT t σ H true) (h : EvL ta σ H xs) : EvL (tIf t ta tb) σ H xs := fun H1 e Q q => ht H1 e _ fun H2 e2 => iteT (h H2 (e.trans e2) Q fun p H3 hp e3 g => q p H3 (fresh_back e2 hp) (e2.trans e3) g)
theorem el_ifF {t : TT} {ta tb : TE} {σ : L2.St} {H : Hp} {xs : List V} (ht : EvT t σ H false) (h : EvL tb σ H xs) : EvL (tIf t ta tb) σ H xs := fun H1 e Q q => ht H1 e _ fun H2 e2 => iteF (h H2 (e.trans e2) Q fun p H3 hp e3 g => q p H3 (fresh_back e2 hp) (e2.trans e3) g)
theorem s_parVV {ta tb : TE} {σ : L2.St} {H : Hp} {D : Ends} {i j : Nat} {x y : V} (h1 : Ev ta σ H x) (h2 : Ev tb σ H y) (k : ∀ H1, Ex H H1 → D.nx ((σ.set i (some x)).set j (some y)) H1) : tPar i j (tCons ta (tCons tb tNil)) D σ H :=
  h1 H (Ex.refl H) _ fun H2 e2 => h2 H2 e2 _ fun H3 e3 => ⟨_, _, rfl, k H3 (e2.trans e3)⟩
theorem part_le {c : List Int} {B : Int} (hB : 0 ≤ B) (h : ∀ z ∈ c, 0 ≤ z ∧ z < B) (i : Nat) : ∀ k : Nat, k ≤ 60 → 0 ≤ part c i k ∧ part c i k ≤ (k : Int) * (60 * B)
  | 0, _ => ⟨Int.le_refl _, by show (0 : Int) ≤ (0 : Int) * _; omega⟩
  | k + 1, hk => by
    obtain ⟨h0, h1⟩ := part_le hB h i k (by omega)
    have hc : 0 ≤ c.getD k 0 ∧ c.getD k 0 ≤ B := by
      rw [List.getD_eq_getElem?_getD]
      cases g : c[k]? with
      | none => exact ⟨Int.le_refl _, hB⟩
      | some z =>
        have := h z (List.mem_of_getElem? g)
        show 0 ≤ z ∧ z ≤ B
        omega
    have h2 : 0 ≤ ((k + 1 : Nat) : Int) * c.getD k 0 := Int.mul_nonneg (by omega) hc.1
    have h3 : ((k + 1 : Nat) : Int) * c.getD k 0 ≤ 60 * B := Int.mul_le_mul (by omega) hc.2 hc.1 (by decide)
    have e : ((k + 1 : Nat) : Int) * (60 * B) = (k : Int) * (60 * B) + 60 * B := by
      rw [Int.natCast_add, Int.add_mul]
      omega
    show 0 ≤ part c i k + _ ∧ part c i k + _ ≤ _
    rw [e]
    split <;> omega
/-- a row as it is drawn -/
theorem rowL_small {c : List Int} (h1 : c.length ≤ 30) (h : ∀ z ∈ c, 0 ≤ z ∧ z < 10 ^ 40) : ∀ x ∈ rowL c, -(2 ^ 169) < x ∧ x < 2 ^ 169 := fun x hx => by
  obtain ⟨i, hi, rfl⟩ := List.mem_map.mp hx
  have hi := List.mem_range.mp hi
  have e40 : (10 : Int) ^ 40 = 10000000000000000000000000000000000000000 := by decide
  have e3 : (2 : Int) ^ 169 = 748288838313422294120286634350736906063837462003712 := by decide
  rw [e40] at h
  obtain ⟨h2, h3⟩ := part_le (B := 10000000000000000000000000000000000000000) (by decide) h i (i + 1) (by omega)
  have h4 : ((i + 1 : Nat) : Int) * (60 * 10000000000000000000000000000000000000000) ≤ 60 * (60 * 10000000000000000000000000000000000000000) := Int.mul_le_mul_of_nonneg_right (by omega) (by decide)
  rw [e3]
  omega

theorem wmS {i j : Int} (h : i.natAbs < 1048576) (h' : j.natAbs < 2 ^ 500) : CMulW i j := wide_mul (a := 20) (b := 500) h h' (by decide) (by decide) (by decide)
theorem wmB {i j : Int} (h : i.natAbs < 2 ^ 500) (h' : j.natAbs < 2 ^ 500) : CMulW i j := wide_mul (a := 500) (b := 500) h h' (by decide) (by decide) (by decide)
theorem p500 {i : Int} (h : i.natAbs < 2 ^ 200) : i.natAbs < 2 ^ 500 := Nat.lt_of_lt_of_le h (by decide)
theorem s500 {i : Int} (h : i.natAbs < 1048576) : i.natAbs < 2 ^ 500 := Nat.lt_of_lt_of_le h (by decide)
theorem row_200 {c : List Int} (h1 : c.length ≤ 30) (h : ∀ z ∈ c, 0 ≤ z ∧ z < 10 ^ 40) (i : Nat) : ((rowL c).getD i 0).natAbs < 2 ^ 200 := by
  have e1 : (2 : Int) ^ 169 = 748288838313422294120286634350736906063837462003712 := by decide
  have e2 : (2 : Nat) ^ 200 = 1606938044258990275541962092341162602522202993782792835301376 := by decide
  rw [e2, List.getD_eq_getElem?_getD]
  cases g : (rowL c)[i]? with
  | none => decide
  | some x =>
    have := rowL_small h1 h x (List.mem_of_getElem? g)
    rw [e1] at this
    show x.natAbs < _
    omega

end My
namespace My
open PySem PySem.Spec PyProof.Rows L2 Evl Bk

def topS (i : Nat) : Stmt := PySem.Challenge.pw_backafter_k93_whole_rings_of_products_an.main.body.getD i (.Pass ⟨0, 0, 0, 0⟩)
abbrev s_is_whole : Stmt := topS 13
theorem sc_is_whole : FnScope ["value"] ["value"] (defScope s_is_whole) := ⟨rfl, rfl, rfl, by decide +kernel, rfl, by decide +kernel, by decide +kernel⟩
abbrev s_rings_in : Stmt := topS 35
theorem sc_rings_in : FnScope ["shuffle", "found", "seen", "first", "ring", "place"] ["shuffle"] (defScope s_rings_in) := ⟨rfl, rfl, rfl, by decide +kernel, rfl, by decide +kernel, by decide +kernel⟩
abbrev s_check_things : Stmt := topS 36
theorem sc_check_things : FnScope ["many"] ["many"] (defScope s_check_things) := ⟨rfl, rfl, rfl, by decide +kernel, rfl, by decide +kernel, by decide +kernel⟩
abbrev s_law_flask : Stmt := topS 38
theorem sc_law_flask : FnScope ["script", "place", "cell", "seed"] ["script", "place"] (defScope s_law_flask) := ⟨rfl, rfl, rfl, by decide +kernel, rfl, by decide +kernel, by decide +kernel⟩
abbrev s_law_sip : Stmt := topS 39
theorem sc_law_sip : FnScope ["flask", "many", "drawn", "stirred"] ["flask", "many"] (defScope s_law_sip) := ⟨rfl, rfl, rfl, by decide +kernel, rfl, by decide +kernel, by decide +kernel⟩
abbrev s_law_common : Stmt := topS 40
theorem sc_law_common : FnScope ["one", "other"] ["one", "other"] (defScope s_law_common) := ⟨rfl, rfl, rfl, by decide +kernel, rfl, by decide +kernel, by decide +kernel⟩
abbrev s_law_told_lengths : Stmt := topS 46
theorem sc_law_told_lengths : FnScope ["counts", "found", "n", "count"] ["counts"] (defScope s_law_told_lengths) := ⟨rfl, rfl, rfl, by decide +kernel, rfl, by decide +kernel, by decide +kernel⟩
abbrev s_is_from_to : Stmt := topS 14
theorem sc_is_from_to : FnScope ["value", "least", "most"] ["value", "least", "most"] (defScope s_is_from_to) := ⟨rfl, rfl, rfl, by decide +kernel, rfl, by decide +kernel, by decide +kernel⟩
abbrev s_check_row : Stmt := topS 15
theorem sc_check_row : FnScope ["row", "number"] ["row"] (defScope s_check_row) := ⟨rfl, rfl, rfl, by decide +kernel, rfl, by decide +kernel, by decide +kernel⟩
abbrev s_check_counts : Stmt := topS 16
theorem sc_check_counts : FnScope ["counts", "index", "count"] ["counts"] (defScope s_check_counts) := ⟨rfl, rfl, rfl, by decide +kernel, rfl, by decide +kernel, by decide +kernel⟩
abbrev s_check_shuffle : Stmt := topS 17
theorem sc_check_shuffle : FnScope ["shuffle", "place"] ["shuffle"] (defScope s_check_shuffle) := ⟨rfl, rfl, rfl, by decide +kernel, rfl, by decide +kernel, by decide +kernel⟩
abbrev s_law_drawn : Stmt := topS 41
theorem sc_law_drawn : FnScope ["flask", "many", "greatest", "n"] ["flask", "many"] (defScope s_law_drawn) := ⟨rfl, rfl, rfl, by decide +kernel, rfl, by decide +kernel, by decide +kernel⟩
abbrev s_law_paired : Stmt := topS 42
theorem sc_law_paired : FnScope ["one", "two", "many", "found", "a", "b", "common", "place", "part", "n"] ["one", "two", "many"] (defScope s_law_paired) := ⟨rfl, rfl, rfl, by decide +kernel, rfl, by decide +kernel, by decide +kernel⟩
abbrev s_law_fallen : Stmt := topS 43
theorem sc_law_fallen : FnScope ["one", "step", "many", "found", "length", "common", "place", "n"] ["one", "step", "many"] (defScope s_law_fallen) := ⟨rfl, rfl, rfl, by decide +kernel, rfl, by decide +kernel, by decide +kernel⟩
abbrev s_law_places : Stmt := topS 45
theorem sc_law_places : FnScope ["flask", "counts", "size", "left", "names", "found", "turn", "start", "n", "count", "ring", "k", "place"] ["flask", "counts"] (defScope s_law_places) := ⟨rfl, rfl, rfl, by decide +kernel, rfl, by decide +kernel, by decide +kernel⟩
abbrev s_check_many : Stmt := topS 18
theorem sc_check_many : FnScope ["many"] ["many"] (defScope s_check_many) := ⟨rfl, rfl, rfl, by decide +kernel, rfl, by decide +kernel, by decide +kernel⟩
abbrev s_new_numbers : Stmt := topS 20
theorem sc_new_numbers : FnScope ["row", "many", "new", "n", "multiple"] ["row"] (defScope s_new_numbers) := ⟨rfl, rfl, rfl, by decide +kernel, rfl, by decide +kernel, by decide +kernel⟩
abbrev s_row_of : Stmt := topS 23
theorem sc_row_of : FnScope ["counts", "many", "row", "n", "count", "multiple"] ["counts"] (defScope s_row_of) := ⟨rfl, rfl, rfl, by decide +kernel, rfl, by decide +kernel, by decide +kernel⟩
abbrev s_added : Stmt := topS 24
theorem sc_added : FnScope ["one", "two", "left", "right"] ["one", "two"] (defScope s_added) := ⟨rfl, rfl, rfl, by decide +kernel, rfl, by decide +kernel, by decide +kernel⟩
abbrev s_multiplied : Stmt := topS 25
theorem sc_multiplied : FnScope ["one", "two", "left", "right"] ["one", "two"] (defScope s_multiplied) := ⟨rfl, rfl, rfl, by decide +kernel, rfl, by decide +kernel, by decide +kernel⟩
abbrev s_each : Stmt := topS 26
theorem sc_each : FnScope ["row", "step"] ["row", "step"] (defScope s_each) := ⟨rfl, rfl, rfl, by decide +kernel, rfl, by decide +kernel, by decide +kernel⟩
abbrev s_lengths : Stmt := topS 29
theorem sc_lengths : FnScope ["shuffle", "ring"] ["shuffle"] (defScope s_lengths) := ⟨rfl, rfl, rfl, by decide +kernel, rfl, by decide +kernel, by decide +kernel⟩
abbrev s_turned : Stmt := topS 30
theorem sc_turned : FnScope ["shuffle", "times", "found", "ring", "at", "place"] ["shuffle", "times"] (defScope s_turned) := ⟨rfl, rfl, rfl, by decide +kernel, rfl, by decide +kernel, by decide +kernel⟩
abbrev s_beside : Stmt := topS 31
theorem sc_beside : FnScope ["one", "two", "place"] ["one", "two"] (defScope s_beside) := ⟨rfl, rfl, rfl, by decide +kernel, rfl, by decide +kernel, by decide +kernel⟩
abbrev s_paired : Stmt := topS 32
theorem sc_paired : FnScope ["one", "two", "left", "right"] ["one", "two"] (defScope s_paired) := ⟨rfl, rfl, rfl, by decide +kernel, rfl, by decide +kernel, by decide +kernel⟩
abbrev s_shuffle_of : Stmt := topS 33
theorem sc_shuffle_of : FnScope ["counts", "found", "n", "count", "_", "first", "k"] ["counts"] (defScope s_shuffle_of) := ⟨rfl, rfl, rfl, by decide +kernel, rfl, by decide +kernel, by decide +kernel⟩
abbrev s_first_bar : Stmt := topS 21
theorem sc_first_bar : FnScope ["row", "n", "new"] ["row"] (defScope s_first_bar) := ⟨rfl, rfl, rfl, by decide +kernel, rfl, by decide +kernel, by decide +kernel⟩
abbrev s_back_row : Stmt := topS 28
theorem sc_back_row : FnScope ["shuffle", "many", "found", "n", "length"] ["shuffle", "many"] (defScope s_back_row) := ⟨rfl, rfl, rfl, by decide +kernel, rfl, by decide +kernel, by decide +kernel⟩
abbrev s_lead : Stmt := topS 34
theorem sc_lead : FnScope ["one", "two", "found", "sources", "targets", "source", "target", "place", "other"] ["one", "two"] (defScope s_lead) := ⟨rfl, rfl, rfl, by decide +kernel, rfl, by decide +kernel, by decide +kernel⟩
abbrev s_rings : Stmt := topS 22
theorem sc_rings : FnScope ["row", "bar", "n", "new"] ["row"] (defScope s_rings) := ⟨rfl, rfl, rfl, by decide +kernel, rfl, by decide +kernel, by decide +kernel⟩
abbrev s_law_shuffles_right : Stmt := topS 47
theorem sc_law_shuffles_right : FnScope ["flask", "some", "turn", "counts", "shuffles", "wide", "due", "pair", "mixed", "times", "gone", "fallen", "way", "made", "n", "a", "b", "place"] ["flask"] (defScope s_law_shuffles_right) := ⟨rfl, rfl, rfl, by decide +kernel, rfl, by decide +kernel, by decide +kernel⟩
abbrev s_law_rows_right : Stmt := topS 44
theorem sc_law_rows_right : FnScope ["flask", "one", "two", "many", "lines", "mixed", "step", "further", "a", "b", "n", "count"] ["flask", "one", "two"] (defScope s_law_rows_right) := ⟨rfl, rfl, rfl, by decide +kernel, rfl, by decide +kernel, by decide +kernel⟩
abbrev s_law : Stmt := topS 48
theorem sc_law : FnScope ["script", "place", "flask", "many"] ["script"] (defScope s_law) := ⟨rfl, rfl, rfl, by decide +kernel, rfl, by decide +kernel, by decide +kernel⟩
/-- where the defs of the text stand behind the top -/
structure Txt (K : PySem.W.Frag) (mg : Str → Option Value) where
  a_is_whole : Addr
  d_is_whole : FuncData
  F_is_whole : Fun K "is_whole" "is_whole" s_is_whole a_is_whole d_is_whole
  g_is_whole : mg "is_whole" = some (.ref a_is_whole)
  a_rings_in : Addr
  d_rings_in : FuncData
  F_rings_in : Fun K "_rings_in" "_rings_in" s_rings_in a_rings_in d_rings_in
  g_rings_in : mg "_rings_in" = some (.ref a_rings_in)
  a_check_things : Addr
  d_check_things : FuncData
  F_check_things : Fun K "_check_things" "_check_things" s_check_things a_check_things d_check_things
  g_check_things : mg "_check_things" = some (.ref a_check_things)
  a_law_flask : Addr
  d_law_flask : FuncData
  F_law_flask : Fun K "_law_flask" "_law_flask" s_law_flask a_law_flask d_law_flask
  g_law_flask : mg "_law_flask" = some (.ref a_law_flask)
  a_law_sip : Addr
  d_law_sip : FuncData
  F_law_sip : Fun K "_law_sip" "_law_sip" s_law_sip a_law_sip d_law_sip
  g_law_sip : mg "_law_sip" = some (.ref a_law_sip)
  a_law_common : Addr
  d_law_common : FuncData
  F_law_common : Fun K "_law_common" "_law_common" s_law_common a_law_common d_law_common
  g_law_common : mg "_law_common" = some (.ref a_law_common)
  a_law_told_lengths : Addr
  d_law_told_lengths : FuncData
  F_law_told_lengths : Fun K "_law_told_lengths" "_law_told_lengths" s_law_told_lengths a_law_told_lengths d_law_told_lengths
  g_law_told_lengths : mg "_law_told_lengths" = some (.ref a_law_told_lengths)
  a_is_from_to : Addr
  d_is_from_to : FuncData
  F_is_from_to : Fun K "is_from_to" "is_from_to" s_is_from_to a_is_from_to d_is_from_to
  g_is_from_to : mg "is_from_to" = some (.ref a_is_from_to)
  a_check_row : Addr
  d_check_row : FuncData
  F_check_row : Fun K "check_row" "check_row" s_check_row a_check_row d_check_row
  g_check_row : mg "check_row" = some (.ref a_check_row)
  a_check_counts : Addr
  d_check_counts : FuncData
  F_check_counts : Fun K "check_counts" "check_counts" s_check_counts a_check_counts d_check_counts
  g_check_counts : mg "check_counts" = some (.ref a_check_counts)
  a_check_shuffle : Addr
  d_check_shuffle : FuncData
  F_check_shuffle : Fun K "check_shuffle" "check_shuffle" s_check_shuffle a_check_shuffle d_check_shuffle
  g_check_shuffle : mg "check_shuffle" = some (.ref a_check_shuffle)
  a_law_drawn : Addr
  d_law_drawn : FuncData
  F_law_drawn : Fun K "_law_drawn" "_law_drawn" s_law_drawn a_law_drawn d_law_drawn
  g_law_drawn : mg "_law_drawn" = some (.ref a_law_drawn)
  a_law_paired : Addr
  d_law_paired : FuncData
  F_law_paired : Fun K "_law_paired" "_law_paired" s_law_paired a_law_paired d_law_paired
  g_law_paired : mg "_law_paired" = some (.ref a_law_paired)
  a_law_fallen : Addr
  d_law_fallen : FuncData
  F_law_fallen : Fun K "_law_fallen" "_law_fallen" s_law_fallen a_law_fallen d_law_fallen
  g_law_fallen : mg "_law_fallen" = some (.ref a_law_fallen)
  a_law_places : Addr
  d_law_places : FuncData
  F_law_places : Fun K "_law_places" "_law_places" s_law_places a_law_places d_law_places
  g_law_places : mg "_law_places" = some (.ref a_law_places)
  a_check_many : Addr
  d_check_many : FuncData
  F_check_many : Fun K "check_many" "check_many" s_check_many a_check_many d_check_many
  g_check_many : mg "check_many" = some (.ref a_check_many)
  a_new_numbers : Addr
  d_new_numbers : FuncData
  F_new_numbers : Fun K "new_numbers" "new_numbers" s_new_numbers a_new_numbers d_new_numbers
  g_new_numbers : mg "new_numbers" = some (.ref a_new_numbers)
  a_row_of : Addr
  d_row_of : FuncData
  F_row_of : Fun K "row_of" "row_of" s_row_of a_row_of d_row_of
  g_row_of : mg "row_of" = some (.ref a_row_of)
  a_added : Addr
  d_added : FuncData
  F_added : Fun K "added" "added" s_added a_added d_added
  g_added : mg "added" = some (.ref a_added)
  a_multiplied : Addr
  d_multiplied : FuncData
  F_multiplied : Fun K "multiplied" "multiplied" s_multiplied a_multiplied d_multiplied
  g_multiplied : mg "multiplied" = some (.ref a_multiplied)
  a_each : Addr
  d_each : FuncData
  F_each : Fun K "each" "each" s_each a_each d_each
  g_each : mg "each" = some (.ref a_each)
  a_lengths : Addr
  d_lengths : FuncData
  F_lengths : Fun K "lengths" "lengths" s_lengths a_lengths d_lengths
  g_lengths : mg "lengths" = some (.ref a_lengths)
  a_turned : Addr
  d_turned : FuncData
  F_turned : Fun K "turned" "turned" s_turned a_turned d_turned
  g_turned : mg "turned" = some (.ref a_turned)
  a_beside : Addr
  d_beside : FuncData
  F_beside : Fun K "beside" "beside" s_beside a_beside d_beside
  g_beside : mg "beside" = some (.ref a_beside)
  a_paired : Addr
  d_paired : FuncData
  F_paired : Fun K "paired" "paired" s_paired a_paired d_paired
  g_paired : mg "paired" = some (.ref a_paired)
  a_shuffle_of : Addr
  d_shuffle_of : FuncData
  F_shuffle_of : Fun K "shuffle_of" "shuffle_of" s_shuffle_of a_shuffle_of d_shuffle_of
  g_shuffle_of : mg "shuffle_of" = some (.ref a_shuffle_of)
  a_first_bar : Addr
  d_first_bar : FuncData
  F_first_bar : Fun K "first_bar" "first_bar" s_first_bar a_first_bar d_first_bar
  g_first_bar : mg "first_bar" = some (.ref a_first_bar)
  a_back_row : Addr
  d_back_row : FuncData
  F_back_row : Fun K "back_row" "back_row" s_back_row a_back_row d_back_row
  g_back_row : mg "back_row" = some (.ref a_back_row)
  a_lead : Addr
  d_lead : FuncData
  F_lead : Fun K "lead" "lead" s_lead a_lead d_lead
  g_lead : mg "lead" = some (.ref a_lead)
  a_rings : Addr
  d_rings : FuncData
  F_rings : Fun K "rings" "rings" s_rings a_rings d_rings
  g_rings : mg "rings" = some (.ref a_rings)
  a_law_shuffles_right : Addr
  d_law_shuffles_right : FuncData
  F_law_shuffles_right : Fun K "_law_shuffles_right" "_law_shuffles_right" s_law_shuffles_right a_law_shuffles_right d_law_shuffles_right
  g_law_shuffles_right : mg "_law_shuffles_right" = some (.ref a_law_shuffles_right)
  a_law_rows_right : Addr
  d_law_rows_right : FuncData
  F_law_rows_right : Fun K "_law_rows_right" "_law_rows_right" s_law_rows_right a_law_rows_right d_law_rows_right
  g_law_rows_right : mg "_law_rows_right" = some (.ref a_law_rows_right)
  a_law : Addr
  d_law : FuncData
  F_law : Fun K "law" "law" s_law a_law d_law
  g_law : mg "law" = some (.ref a_law)
  t_MOST_NUMBERS : Tok
  c_MOST_NUMBERS : mg "MOST_NUMBERS" = some (.int (300) t_MOST_NUMBERS)
  t_MOST_THINGS : Tok
  c_MOST_THINGS : mg "MOST_THINGS" = some (.int (300) t_MOST_THINGS)
  z_abs : mg "abs" = none
  z_all : mg "all" = none
  z_bool : mg "bool" = none
  z_enumerate : mg "enumerate" = none
  z_int : mg "int" = none
  z_isinstance : mg "isinstance" = none
  z_len : mg "len" = none
  z_list : mg "list" = none
  z_max : mg "max" = none
  z_min : mg "min" = none
  z_range : mg "range" = none
  z_sorted : mg "sorted" = none
  z_sum : mg "sum" = none
  z_tuple : mg "tuple" = none
  z_zip : mg "zip" = none
section
variable {P : Program} {w : World} {K : PySem.W.Frag} {mg : Str → Option Value} {base : Heap}
theorem b_is_whole (T : Txt K mg) : Binds K T.d_is_whole ["value"] [] := T.F_is_whole.binds fun _ _ _ _ _ _ us hl => match us, hl with | [_], _ => rfl
theorem b_rings_in (T : Txt K mg) : Binds K T.d_rings_in ["shuffle"] [] := T.F_rings_in.binds fun _ _ _ _ _ _ us hl => match us, hl with | [_], _ => rfl
theorem b_check_things (T : Txt K mg) : Binds K T.d_check_things ["many"] [] := T.F_check_things.binds fun _ _ _ _ _ _ us hl => match us, hl with | [_], _ => rfl
theorem b_law_flask (T : Txt K mg) : Binds K T.d_law_flask ["script", "place"] [] := T.F_law_flask.binds fun _ _ _ _ _ _ us hl => match us, hl with | [_, _], _ => rfl
theorem b_law_sip (T : Txt K mg) : Binds K T.d_law_sip ["flask", "many"] [] := T.F_law_sip.binds fun _ _ _ _ _ _ us hl => match us, hl with | [_, _], _ => rfl
theorem b_law_common (T : Txt K mg) : Binds K T.d_law_common ["one", "other"] [] := T.F_law_common.binds fun _ _ _ _ _ _ us hl => match us, hl with | [_, _], _ => rfl
theorem b_law_told_lengths (T : Txt K mg) : Binds K T.d_law_told_lengths ["counts"] [] := T.F_law_told_lengths.binds fun _ _ _ _ _ _ us hl => match us, hl with | [_], _ => rfl
theorem b_is_from_to (T : Txt K mg) : Binds K T.d_is_from_to ["value", "least", "most"] [] := T.F_is_from_to.binds fun _ _ _ _ _ _ us hl => match us, hl with | [_, _, _], _ => rfl
theorem b_check_row (T : Txt K mg) : Binds K T.d_check_row ["row"] [] := T.F_check_row.binds fun _ _ _ _ _ _ us hl => match us, hl with | [_], _ => rfl
theorem b_check_counts (T : Txt K mg) : Binds K T.d_check_counts ["counts"] [] := T.F_check_counts.binds fun _ _ _ _ _ _ us hl => match us, hl with | [_], _ => rfl
theorem b_check_shuffle (T : Txt K mg) : Binds K T.d_check_shuffle ["shuffle"] [] := T.F_check_shuffle.binds fun _ _ _ _ _ _ us hl => match us, hl with | [_], _ => rfl
theorem b_law_drawn (T : Txt K mg) : Binds K T.d_law_drawn ["flask", "many"] [] := T.F_law_drawn.binds fun _ _ _ _ _ _ us hl => match us, hl with | [_, _], _ => rfl
theorem b_law_paired (T : Txt K mg) : Binds K T.d_law_paired ["one", "two", "many"] [] := T.F_law_paired.binds fun _ _ _ _ _ _ us hl => match us, hl with | [_, _, _], _ => rfl
theorem b_law_fallen (T : Txt K mg) : Binds K T.d_law_fallen ["one", "step", "many"] [] := T.F_law_fallen.binds fun _ _ _ _ _ _ us hl => match us, hl with | [_, _, _], _ => rfl
theorem b_law_places (T : Txt K mg) : Binds K T.d_law_places ["flask", "counts"] [] := T.F_law_places.binds fun _ _ _ _ _ _ us hl => match us, hl with | [_, _], _ => rfl
theorem b_check_many (T : Txt K mg) : Binds K T.d_check_many ["many"] [] := T.F_check_many.binds fun _ _ _ _ _ _ us hl => match us, hl with | [_], _ => rfl
theorem b_new_numbers (T : Txt K mg) : Binds K T.d_new_numbers ["row"] [] := T.F_new_numbers.binds fun _ _ _ _ _ _ us hl => match us, hl with | [_], _ => rfl
theorem b_row_of (T : Txt K mg) : Binds K T.d_row_of ["counts"] [] := T.F_row_of.binds fun _ _ _ _ _ _ us hl => match us, hl with | [_], _ => rfl
theorem b_added (T : Txt K mg) : Binds K T.d_added ["one", "two"] [] := T.F_added.binds fun _ _ _ _ _ _ us hl => match us, hl with | [_, _], _ => rfl
theorem b_multiplied (T : Txt K mg) : Binds K T.d_multiplied ["one", "two"] [] := T.F_multiplied.binds fun _ _ _ _ _ _ us hl => match us, hl with | [_, _], _ => rfl
theorem b_each (T : Txt K mg) : Binds K T.d_each ["row", "step"] [] := T.F_each.binds fun _ _ _ _ _ _ us hl => match us, hl with | [_, _], _ => rfl
theorem b_lengths (T : Txt K mg) : Binds K T.d_lengths ["shuffle"] [] := T.F_lengths.binds fun _ _ _ _ _ _ us hl => match us, hl with | [_], _ => rfl
theorem b_turned (T : Txt K mg) : Binds K T.d_turned ["shuffle", "times"] [] := T.F_turned.binds fun _ _ _ _ _ _ us hl => match us, hl with | [_, _], _ => rfl
theorem b_beside (T : Txt K mg) : Binds K T.d_beside ["one", "two"] [] := T.F_beside.binds fun _ _ _ _ _ _ us hl => match us, hl with | [_, _], _ => rfl
theorem b_paired (T : Txt K mg) : Binds K T.d_paired ["one", "two"] [] := T.F_paired.binds fun _ _ _ _ _ _ us hl => match us, hl with | [_, _], _ => rfl
theorem b_shuffle_of (T : Txt K mg) : Binds K T.d_shuffle_of ["counts"] [] := T.F_shuffle_of.binds fun _ _ _ _ _ _ us hl => match us, hl with | [_], _ => rfl
theorem b_first_bar (T : Txt K mg) : Binds K T.d_first_bar ["row"] [] := T.F_first_bar.binds fun _ _ _ _ _ _ us hl => match us, hl with | [_], _ => rfl
theorem b_back_row (T : Txt K mg) : Binds K T.d_back_row ["shuffle", "many"] [] := T.F_back_row.binds fun _ _ _ _ _ _ us hl => match us, hl with | [_, _], _ => rfl
theorem b_lead (T : Txt K mg) : Binds K T.d_lead ["one", "two"] [] := T.F_lead.binds fun _ _ _ _ _ _ us hl => match us, hl with | [_, _], _ => rfl
theorem b_rings (T : Txt K mg) : Binds K T.d_rings ["row"] [] := T.F_rings.binds fun _ _ _ _ _ _ us hl => match us, hl with | [_], _ => rfl
theorem b_law_shuffles_right (T : Txt K mg) : Binds K T.d_law_shuffles_right ["flask"] [] := T.F_law_shuffles_right.binds fun _ _ _ _ _ _ us hl => match us, hl with | [_], _ => rfl
theorem b_law_rows_right (T : Txt K mg) : Binds K T.d_law_rows_right ["flask", "one", "two"] [] := T.F_law_rows_right.binds fun _ _ _ _ _ _ us hl => match us, hl with | [_, _, _], _ => rfl
theorem b_law (T : Txt K mg) : Binds K T.d_law ["script"] [] := T.F_law.binds fun _ _ _ _ _ _ us hl => match us, hl with | [_], _ => rfl
/-! ### is_whole -/
def sp_is_whole (K : PySem.W.Frag) : Sp := fun vs H Q _ => ∃ n : Int, vs = [.int n] ∧ RetV (.bl true) H Q
theorem v_is_whole {K : PySem.W.Frag} {H : Hp} (n : Int) : SpV (sp_is_whole K) [.int n] H (.bl true) := fun H1 e Q q E => ⟨n, rfl, q⟩
theorem ok_is_whole (T : Txt K mg) : FnG P w K mg base CX0 1 T.a_is_whole T.d_is_whole ["value"] (sp_is_whole K) := by
  refine okG T.F_is_whole sc_is_whole (fun vs H Q E h => ?_) (fun cdv A out s H vs Q E hr h => ?_)
  · obtain ⟨n, rfl, q⟩ := h
    rfl
  · obtain ⟨n, rfl, q⟩ := h
    refine ⟨_, (pss_one (ps_ret (pe_and (pe_callB (call_isiK' (K := K) rfl) (by rfl) T.z_isinstance bt_isinstance (pa_cons (pv 0) (pa_cons (pe_bltn (v := .ty "int") (by rfl) T.z_int bt_int rfl) pa_nil))) (pe_one (pe_not (pe_callB (call_isiK' (K := K) rfl) (by rfl) T.z_isinstance bt_isinstance (pa_cons (pv 0) (pa_cons (pe_bltn (v := .ty "bool") (by rfl) T.z_bool bt_bool rfl) pa_nil)))))))), ?_⟩
    exact s_ret (ev_andV (ev_isi (ev_var rfl) (fun _ _ => .base (.int n)) kb_int_int) fun _ => ev_notV (ev_isi (ev_var rfl) (fun _ _ => .base (.int n)) kb_int_bool)) q
/-! ### _rings_in -/
def sp_rings_in (K : PySem.W.Frag) : Sp := fun vs H Q _ => ∃ (a : Addr) (ds : List Int), vs = [.ref a] ∧ SqT K H a (vi ds) ∧ Shf ds ∧ (Rings ds (ringsL ds ds.length) ds.length → RetN (ringsL ds ds.length) H Q)
theorem n_rings_in {K : PySem.W.Frag} {H : Hp} {a : Addr} {ds : List Int} (h : SqT K H a (vi ds)) (s : Shf ds) : SpN (sp_rings_in K) [.ref a] H (ringsL ds ds.length) :=
  fun H1 e Q q E => ⟨a, ds, rfl, ex_t e h, s, fun _ => q⟩
theorem ok_rings_in (T : Txt K mg) : FnG P w K mg base CX0 1 T.a_rings_in T.d_rings_in ["shuffle"] (sp_rings_in K) := by
  refine okG T.F_rings_in sc_rings_in (fun vs H Q E h => ?_) (fun cdv A out s H vs Q E hr h => ?_)
  · obtain ⟨a, ds, rfl, hA, hs, q⟩ := h
    rfl
  · obtain ⟨a, ds, rfl, hA, hs, q⟩ := h
    refine ⟨_, (pss_cons (ps_set (i := 1) sc_rings_in.nd rfl (.inl rfl) (pe_lst pa_nil))
    (pss_cons (ps_set (i := 2) sc_rings_in.nd rfl (.inl rfl) (pe_op op_rep (pe_lst (pa_cons pe_bl pa_nil)) (pe_callB (call_lenK (K := K) rfl) (by rfl) T.z_len bt_len (pa_cons (pv 0) pa_nil))))
    (pss_cons (ps_for PassesOwn.never rfl (pi_range1 (by rfl) T.z_range (pa_cons (pe_callB (call_lenK (K := K) rfl) (by rfl) T.z_len bt_len (pa_cons (pv 0) pa_nil)) pa_nil)) (pg_name (i := 3) sc_rings_in.nd rfl (.inl rfl))
      (pss_one (ps_if (pt_not (pt_val (pe_ix (ix_listK (K := K) rfl) (pv 2) (pv 3) (fun _ _ => rfl))))
        (pss_cons (ps_set (i := 4) sc_rings_in.nd rfl (.inl rfl) (pe_lst pa_nil))
        (pss_cons (ps_set (i := 5) sc_rings_in.nd rfl (.inl rfl) (pv 3))
        (pss_cons (ps_while PassesOwn.never (pt_not (pt_val (pe_ix (ix_listK (K := K) rfl) (pv 2) (pv 5) (fun _ _ => rfl))))
          (pss_cons (ps_asg pe_bl (pg_sub (pv 2) (pv 5) set_list))
          (pss_cons (ps_expr (pe_bm PySem.F.plainAttrs_list PySem.F.slot_list_append PySem.F.type_list_append mt_append (pv 4) (pa_cons (pv 5) pa_nil)))
          (pss_one (ps_set (i := 5) sc_rings_in.nd rfl (.inl rfl) (pe_ix (ix_tupK (K := K) rfl) (pv 0) (pv 5) (fun _ _ => rfl)))))))
        (pss_one (ps_expr (pe_bm PySem.F.plainAttrs_list PySem.F.slot_list_append PySem.F.type_list_append mt_append (pv 1) (pa_cons (pv 4) pa_nil)))))))
        pss_nil)))
    (pss_one (ps_ret (pv 1)))))), ?_⟩
    have hl : ((vi ds).length : Int) = (ds.length : Int) := by rw [List.length_map]
    have h3 := hs.2.1
    refine q_asgL (el_lst ea_nil (Nat.zero_le _)) fun pf H1 f1 e1 h1 => ?_
    refine q_asgL (xs := marks ds.length []) (el_is (el_rep (n := (ds.length : Int)) (el_lst (ea_cons ev_c ea_nil) (by show 1 ≤ 100000; decide)) (fun H1 e2 => ev_is (ev_lenT (ev_var rfl) (ex_t (e1.trans e2) hA)) (by rw [hl])) (by omega) (by show 1 * _ ≤ _; omega) (by omega)) (by rw [Int.toNat_natCast]; exact marks_nil _)) fun ps H2 f2 e2 h2 => ?_
    have g1 := e2 _ _ h1
    have nsf : ps ≠ pf := ne_of_none' f2 h1
    have fs : H ps = none := fresh_back e1 f2
    refine q_forR1 (n := (ds.length : Int)) (ea_cons (ev_is (ev_lenT (ev_var rfl) (ex_t (e1.trans e2) hA)) (by rw [hl])) ea_nil) (by omega)
      (fun i σ' H' => ∃ (qs : List Addr) (y3 y4 y5 : Option V), σ' = [some (.ref a), some (.ref pf), some (.ref ps), y3, y4, y5] ∧ Ex H H' ∧ H' pf = some (.lst (qs.map .ref)) ∧ H' ps = some (.lst (marks ds.length (ringsL ds i).flatten)) ∧ Nest H' qs (ringsL ds i) ∧ (∀ q ∈ qs, q ≠ pf ∧ q ≠ ps ∧ H q = none) ∧ Rings ds (ringsL ds i) i) ?_ ?_ ?_
    · intro H3 e3
      exact ⟨[], _, _, _, rfl, (e1.trans e2).trans e3, e3 _ _ g1, e3 _ _ h2, Nest.nil, (fun q h => nomatch h), Rings.nil ds⟩
    · rintro i σ' H' hi ⟨qs, y3, y4, y5, rfl, e, gf, gs, ne, nq, rg⟩
      have hi' : i < ds.length := by omega
      by_cases hm : i ∈ (ringsL ds i).flatten
      · have er : ringsL ds (i + 1) = ringsL ds i := if_pos hm
        refine s_when (b := false) (et_not (a := true) (et_test (ev_is (ev_op (ev_var rfl) (ev_var rfl) (rv_ixL (sq_of gs) (atI_nat (marks_at _ hi')))) (by rw [decide_eq_true hm])))) (fun h => nomatch h) fun _ H3 e3 => ?_
        refine ⟨qs, _, _, _, rfl, e.trans e3, e3 _ _ gf, ?_, ?_, nq, ?_⟩
        · rw [er]
          exact e3 _ _ gs
        · rw [er]
          exact ne.ex e3
        · rw [er]
          exact rg.skip hm
      · have er : ringsL ds (i + 1) = ringsL ds i ++ [ringL ds i] := if_neg hm
        refine s_when (b := true) (et_not (a := false) (et_test (ev_is (ev_op (ev_var rfl) (ev_var rfl) (rv_ixL (sq_of gs) (atI_nat (marks_at _ hi')))) (by rw [decide_eq_false hm])))) (fun _ H3 e3 => ?_) (fun h => nomatch h)
        refine q_asgL (el_lst ea_nil (Nat.zero_le _)) fun pr H4 f4 e4 h4 => ?_
        have fr : H pr = none := fresh_back (e.trans e3) f4
        have nrf : pr ≠ pf := ne_of_none' f4 (e3 _ _ gf)
        have nrs : pr ≠ ps := ne_of_none' f4 (e3 _ _ gs)
        have nrq : ∀ q ∈ qs, q ≠ pr := fun q hq => ne.ne (ne.ex e3) hq f4
        refine q_asg (ev_var rfl) fun H5 e5 => ?_
        have e35 := (e3.trans e4).trans e5
        have M0 : (ringsL ds i).flatten.length ≤ ds.length := nlen_le rg.nd rg.lt
        refine q_while (fun m σ' H' => ∃ j, σ' = [some (.ref a), some (.ref pf), some (.ref ps), some (.int (i : Int)), some (.ref pr), some (.int (orb ds i j : Int))] ∧ Ex H H' ∧ H' pf = some (.lst (qs.map .ref)) ∧ H' ps = some (.lst (marks ds.length ((ringsL ds i).flatten ++ track ds i j))) ∧ H' pr = some (.lst (vi (up (track ds i j)))) ∧ Nest H' qs (ringsL ds i) ∧
          ((ringsL ds i).flatten ++ track ds i j).Nodup ∧ m + ((ringsL ds i).flatten.length + j) = ds.length) (ds.length - (ringsL ds i).flatten.length) ?_ ?_
        · refine ⟨0, rfl, e.trans e35, e35 _ _ gf, ?_, e5 _ _ h4, ne.ex e35, ?_, by omega⟩
          · show _ = some (HO.lst (marks ds.length ((ringsL ds i).flatten ++ [])))
            rw [List.append_nil]
            exact e35 _ _ gs
          · show ((ringsL ds i).flatten ++ []).Nodup
            rw [List.append_nil]
            exact rg.nd
        · rintro m σ'' H'' ⟨j, rfl, e', gf', gs', gr', ne', nd, hm'⟩
          have ho := orb_lt hs hi' j
          by_cases hmm : orb ds i j ∈ (ringsL ds i).flatten ++ track ds i j
          · refine ⟨false, et_not (a := true) (et_test (ev_is (ev_op (ev_var rfl) (ev_var rfl) (rv_ixL (sq_of gs') (atI_nat (marks_at _ ho)))) (by rw [decide_eq_true hmm]))), (fun h => nomatch h), fun _ H6 e6 => ?_⟩
            have hr := ring_close hs hi' hm (rg.fro hs) nd hmm
            refine s_app (e6 _ _ gf') (ev_var rfl) (ev_var rfl) ?_ fun H7 e7 => ?_
            · have : (ringsL ds i).length ≤ (ringsL ds i).flatten.length := rings_le fun r h => (rg.ring r h).pos
              rw [List.length_map, ne.1]
              omega
            refine ⟨qs ++ [pr], _, _, _, rfl, ((e'.trans e6).trans e7).mut (fresh_back (Ex.refl H) f1), ?_, ?_, ?_, ?_, ?_⟩
            · rw [upd_same, List.map_append]
              rfl
            · rw [upd_ne nsf, er, List.flatten_append, List.flatten_singleton, ← track_is hr]
              exact e7 _ _ (e6 _ _ gs')
            · rw [er, ← track_is hr]
              refine Nest.put (((ne'.ex e6).ex e7).upd fun q hq => (nq q hq).1) ?_
              rw [upd_ne nrf]
              exact e7 _ _ (e6 _ _ gr')
            · intro q hq
              rcases List.mem_append.mp hq with h | h
              · exact nq q h
              · rw [List.mem_singleton.mp h]
                exact ⟨nrf, nrs, fr⟩
            · rw [er, ← track_is hr]
              exact rg.put hr nd
          · refine ⟨true, et_not (a := false) (et_test (ev_is (ev_op (ev_var rfl) (ev_var rfl) (rv_ixL (sq_of gs') (atI_nat (marks_at _ ho)))) (by rw [decide_eq_false hmm]))), fun _ H6 e6 => ?_, (fun h => nomatch h)⟩
            have nd2 : ((ringsL ds i).flatten ++ track ds i (j + 1)).Nodup := by
              rw [track_succ, ← List.append_assoc]
              refine List.nodup_append.mpr ⟨nd, List.pairwise_singleton _ _, fun x hx y hy e => ?_⟩
              rw [List.mem_singleton.mp hy] at e
              exact hmm (e ▸ hx)
            have lt2 : ((ringsL ds i).flatten ++ track ds i (j + 1)).length ≤ ds.length := by
              refine nlen_le nd2 fun x hx => ?_
              rcases List.mem_append.mp hx with h | h
              · exact rg.lt x h
              · obtain ⟨t, _, rfl⟩ := List.mem_map.mp h
                exact orb_lt hs hi' t
            rw [List.length_append, track_length] at lt2
            refine ⟨_, fun σ2 H2 h => ⟨m - 1, by omega, h⟩, ?_⟩
            refine q_setL (j := orb ds i j) (e6 _ _ gs') ev_c (ev_var rfl) (ev_var rfl) (by rw [marks_length]; exact ho) fun H7 e7 => ?_
            refine q_app (xs := vi (up (track ds i j))) ?_ (ev_var rfl) (ev_var rfl) (by rw [List.length_map, up_length, track_length]; omega) fun H8 e8 => ?_
            · rw [upd_ne nrs]
              exact e7 _ _ (e6 _ _ gr')
            have eA : Ex H (upd H7 ps (.lst (marks ds.length ((ringsL ds i).flatten ++ track ds i j ++ [orb ds i j])))) := ((e'.trans e6).trans e7).mut fs
            rw [marks_set _ ho] at e8
            refine s_asg (ev_op (ev_var rfl) (ev_var rfl) (rv_ixT (ex_t ((eA.trans e8).mut fr) hA) (atI_nat (nx_at hs ho)))) fun H9 e9 => ?_
            refine ⟨j + 1, rfl, (((eA.trans e8).mut fr).trans e9), ?_, ?_, ?_, ?_, nd2, by omega⟩
            · refine e9 _ _ ?_
              rw [upd_ne (Ne.symm nrf)]
              refine e8 _ _ ?_
              rw [upd_ne (Ne.symm nsf)]
              exact e7 _ _ (e6 _ _ gf')
            · refine e9 _ _ ?_
              rw [upd_ne (Ne.symm nrs)]
              refine e8 _ _ ?_
              rw [upd_same, track_succ, List.append_assoc]
            · refine e9 _ _ ?_
              rw [upd_same, track_succ]
              unfold up vi
              simp only [List.map_append]
              rfl
            · refine ((((((ne'.ex e6).ex e7).upd fun q hq => (nq q hq).2.1).ex e8).upd nrq).ex e9)
    · rintro σ' H' ⟨qs, y3, y4, y5, rfl, e, gf, gs, ne, nq, rg⟩
      rw [Int.toNat_natCast] at gs ne rg
      refine s_ret (ev_var rfl) fun H3 e3 => ?_
      exact q rg pf qs H3 f1 (e.trans e3) (e3 _ _ gf) (ne.ex e3) fun b hb => (nq b hb).2.2
/-! ### _check_things -/
def sp_check_things (K : PySem.W.Frag) : Sp := fun vs H Q _ => ∃ m : Int, vs = [.int m] ∧ 1 ≤ m ∧ m ≤ 300 ∧ RetV .non H Q
theorem v_check_things {K : PySem.W.Frag} {H : Hp} {m : Int} (h1 : 1 ≤ m) (h2 : m ≤ 300) : SpV (sp_check_things K) [.int m] H .non := fun H1 e Q q E => ⟨m, rfl, h1, h2, q⟩
theorem ok_check_things (T : Txt K mg) : FnG P w K mg base CX0 1 T.a_check_things T.d_check_things ["many"] (sp_check_things K) := by
  refine okG T.F_check_things sc_check_things (fun vs H Q E h => ?_) (fun cdv A out s H vs Q E hr h => ?_)
  · obtain ⟨m, rfl, h1, h2, q⟩ := h
    rfl
  · obtain ⟨m, rfl, h1, h2, q⟩ := h
    refine ⟨_, (pss_one (ps_if (pt_not (pt_chain op_le op_le pe_int (pv 0) (pe_glob (v := .int 300) rfl T.c_MOST_THINGS ⟨_, rfl⟩)))
      (pss_one ps_never)
      pss_nil)), ?_⟩
    exact s_when (b := false) (et_not (a := true) (et_test (ev_chain (a := true) (b := true) ev_c (ev_var rfl) (rv_b (decide_eq_true h1)) (fun _ => ev_c) fun _ => rv_b (decide_eq_true h2)))) (fun h => nomatch h) fun _ => q
/-! ### _law_flask -/
def sp_law_flask (K : PySem.W.Frag) : Sp := fun vs H Q _ => ∃ (a : Addr) (ns : List Int) (k : Int), vs = [.ref a, .int k] ∧ SqL K H a (vi ns) ∧ 0 ≤ k ∧ k ≤ 63 ∧ ∀ p H2, H p = none → Ex H H2 → Well H2 p 0 → Q (.ref p) H2
theorem ok_law_flask (T : Txt K mg) : FnG P w K mg base CX0 1 T.a_law_flask T.d_law_flask ["script", "place"] (sp_law_flask K) := by
  refine okG T.F_law_flask sc_law_flask (fun vs H Q E h => ?_) (fun cdv A out s H vs Q E hr h => ?_)
  · obtain ⟨a, ns, k, rfl, hS, h0, h1, q⟩ := h
    rfl
  · obtain ⟨a, ns, k, rfl, hS, h0, h1, q⟩ := h
    refine ⟨_, (pss_cons (ps_set (i := 2) sc_law_flask.nd rfl (.inl rfl) (pe_ifExp (pt_cmpR op_lt (pv 1) (pe_callB (call_lenK (K := K) rfl) (by rfl) T.z_len bt_len (pa_cons (pv 0) pa_nil)) (nomark _)) (pe_ix (ix_listK (K := K) rfl) (pv 0) (pv 1) (fun _ _ => rfl)) pe_int))
    (pss_cons (ps_set (i := 3) sc_law_flask.nd rfl (.inl rfl) (pe_op op_add (pe_op op_add (pe_op op_add (pe_op op_mul (pe_callB call_abs (by rfl) T.z_abs bt_abs (pa_cons (pv 2) pa_nil)) pe_int) (pe_callTy call_int1 (by rfl) T.z_int bt_int (pa_cons (pe_cmpR op_lt (pv 2) pe_int (nomark _)) pa_nil))) (pe_op op_mul (pv 1) pe_int)) pe_int))
    (pss_one (ps_ret (pe_lst (pa_cons (pe_callB (call_max2 rfl) (by rfl) T.z_max bt_max (pa_cons pe_int (pa_cons (pe_op op_sub (pe_callB call_abs (by rfl) T.z_abs bt_abs (pa_cons (pv 2) pa_nil)) (pe_op op_powW pe_int pe_int)) pa_nil))) (pa_cons (pe_op op_mod (pe_callTy call_int1 (by rfl) T.z_int bt_int (pa_cons (pv 3) pa_nil)) (pe_op op_add (pe_op op_powW pe_int pe_int) pe_int)) (pa_cons pe_int pa_nil)))))))), ?_⟩
    refine q_asg (v := .int (if k < (ns.length : Int) then ns.getD k.toNat 0 else 0)) ?_ fun H1 e1 => ?_
    · by_cases hk : k < ns.length
      · obtain ⟨j, rfl⟩ : ∃ j : Nat, k = j := ⟨k.toNat, by omega⟩
        have hj : j < ns.length := by omega
        have hx : (vi ns)[j]? = some (.int (ns.getD j 0)) := by
          rw [vi_at hj, List.getD_eq_getElem?_getD, List.getElem?_eq_getElem hj]
          rfl
        rw [if_pos hk]
        exact ev_if (b := true) (et_test (ev_op (ev_var rfl) (ev_len (ev_var rfl) hS) (rv_b (decide_eq_true (by rw [List.length_map]; exact hk))))) (fun _ => ev_op (ev_var rfl) (ev_var rfl) (rv_ixL hS (atI_nat hx))) (fun h => nomatch h)
      · rw [if_neg hk]
        exact ev_if (b := false) (et_test (ev_op (ev_var rfl) (ev_len (ev_var rfl) hS) (rv_b (decide_eq_false (by rw [List.length_map]; exact hk))))) (fun h => nomatch h) (fun _ => ev_c)
    generalize (if k < (ns.length : Int) then ns.getD k.toNat 0 else 0) = cell
    refine q_asg (v := .int ((if cell < 0 then -cell else cell) * 2 + (if decide (cell < 0) then 1 else 0) + k * 15485863 + 7)) (ev_op (ev_op (ev_op (ev_op (ev_abs (ev_var rfl)) ev_c (rv_I (.inr (by decide)))) (ev_intB (ev_op (ev_var rfl) ev_c (rv_b rfl))) rv_I0) (ev_op (ev_var rfl) ev_c (rv_I (.inr (by decide)))) rv_I0) ev_c rv_I0) fun H1' e1' => ?_
    replace e1 := e1.trans e1'
    generalize (if cell < 0 then -cell else cell) * 2 + (if decide (cell < 0) then 1 else 0) + k * 15485863 + 7 = seed
    refine s_retL (xs := [_, _, _]) (el_lst (ea_cons (ev_max2 ev_c (ev_op (ev_abs (ev_var rfl)) (ev_op ev_c ev_c (rv_I (cpw (by decide) (by decide) (by decide)))) rv_I0)) (ea_cons (ev_op (ev_int1 (ev_var rfl)) (ev_op (ev_op ev_c ev_c (rv_I (cpw (by decide) (by decide) (by decide)))) ev_c rv_I0) (rv_I (by have := p10_pos (Int.toNat 25); omega))) (ea_cons ev_c ea_nil))) (by show 3 ≤ 100000; decide)) fun p H2 hp e2 h2 => ?_
    refine q p H2 (fresh_back e1 hp) (e1.trans e2) ⟨_, _, _, h2, ?_, ?_, by decide, by decide⟩
    · exact Int.emod_nonneg seed (show (10 : Int) ^ Int.toNat 25 + 13 ≠ 0 by have := p10_pos (Int.toNat 25); omega)
    · have := Int.emod_lt_of_pos seed (show (0 : Int) < 10 ^ Int.toNat 25 + 13 by have := p10_pos (Int.toNat 25); omega)
      have e : (10 : Int) ^ Int.toNat 25 = 10000000000000000000000000 := by decide
      omega
/-! ### _law_sip -/
abbrev sp_law_sip := sp_dr
theorem ok_law_sip (T : Txt K mg) : FnG P w K mg base CX0 1 T.a_law_sip T.d_law_sip ["flask", "many"] (sp_law_sip K) := by
  refine okG T.F_law_sip sc_law_sip (fun vs H Q E h => ?_) (fun cdv A out s H vs Q E hr h => ?_)
  · obtain ⟨a, n, m, rfl, ⟨x, y, c, hW, y0, y1, c0, c1⟩, hn, m0, m1, q⟩ := h
    rfl
  · obtain ⟨a, n, m, rfl, ⟨x, y, c, hW, y0, y1, c0, c1⟩, hn, m0, m1, q⟩ := h
    refine ⟨_, (pss_cons (ps_if (pt_cmpR op_gt (pe_ix (ix_listK (K := K) rfl) (pv 0) pe_int (fun _ _ => rfl)) pe_int (nomark _))
      (pss_cons (ps_set (i := 2) sc_law_sip.nd rfl (.inl rfl) (pe_op op_mod (pe_callTy call_int1 (by rfl) T.z_int bt_int (pa_cons (pe_ix (ix_listK (K := K) rfl) (pv 0) pe_int (fun _ _ => rfl)) pa_nil)) (pv 1)))
      (pss_cons (ps_asg (pe_op op_fdivW (pe_ix (ix_listK (K := K) rfl) (pv 0) pe_int (fun _ _ => rfl)) (pv 1)) (pg_sub (pv 0) pe_int set_list))
      (pss_one (ps_ret (pv 2)))))
      pss_nil)
    (pss_cons (ps_asg (pe_op op_add (pe_ix (ix_listK (K := K) rfl) (pv 0) pe_int (fun _ _ => rfl)) pe_int) (pg_sub (pv 0) pe_int set_list))
    (pss_cons (ps_set (i := 3) sc_law_sip.nd rfl (.inl rfl) (pe_op op_mod (pe_op op_powW (pe_callTy call_int1 (by rfl) T.z_int bt_int (pa_cons (pe_op op_add (pe_ix (ix_listK (K := K) rfl) (pv 0) pe_int (fun _ _ => rfl)) (pe_op op_mul pe_int (pe_ix (ix_listK (K := K) rfl) (pv 0) pe_int (fun _ _ => rfl)))) pa_nil)) pe_int) (pe_op op_add (pe_op op_powW pe_int pe_int) pe_int)))
    (pss_cons (ps_set (i := 3) sc_law_sip.nd rfl (.inl rfl) (pe_op op_mod (pe_op op_powW (pe_callTy call_int1 (by rfl) T.z_int bt_int (pa_cons (pe_op op_add (pe_op op_add (pe_op op_mul (pv 3) pe_int) (pe_ix (ix_listK (K := K) rfl) (pv 0) pe_int (fun _ _ => rfl))) (pe_ix (ix_listK (K := K) rfl) (pv 0) pe_int (fun _ _ => rfl))) pa_nil)) pe_int) (pe_op op_add (pe_op op_powW pe_int pe_int) pe_int)))
    (pss_one (ps_ret (pe_op op_mod (pe_callTy call_int1 (by rfl) T.z_int bt_int (pa_cons (pe_op op_fdivW (pv 3) pe_int) pa_nil)) (pv 1)))))))), ?_⟩
    have hS := sq_of (K := K) hW
    by_cases hx : 0 < x
    · refine q_when (b := true) (et_test (ev_op (ev_op (ev_var rfl) ev_c (rv_ixL hS rfl)) ev_c (rv_b (decide_eq_true hx)))) (fun _ H1 e1 => ?_) (fun h => nomatch h)
      refine q_asg (ev_op (ev_int1 (ev_op (ev_var rfl) ev_c (rv_ixL (ex_l e1 hS) rfl))) (ev_var rfl) (rv_I m0)) fun H2 e2 => ?_
      have hW2 := e2 _ _ (e1 _ _ hW)
      refine q_setL (j := 0) hW2 (ev_op (ev_op (ev_var rfl) ev_c (rv_ixL (sq_of hW2) rfl)) (ev_var rfl) (rv_I (cdw8 _ m0 m1))) (ev_var rfl) ev_c (by show 0 < 3; decide) fun H3 e3 => ?_
      refine s_ret (ev_var rfl) fun H4 e4 => ?_
      refine q _ H4 (((But.ex ((e1.trans e2).trans e3)).trans .at).trans (But.ex e4)) ⟨_, _, _, e4 _ _ upd_same, y0, y1, c0, by omega⟩ (Int.emod_nonneg _ (by omega)) (Int.emod_lt_of_pos _ m0)
    · refine q_when (b := false) (et_test (ev_op (ev_op (ev_var rfl) ev_c (rv_ixL hS rfl)) ev_c (rv_b (decide_eq_false hx)))) (fun h => nomatch h) (fun _ H1 e1 => ?_)
      have hW1 := e1 _ _ hW
      refine q_setL (j := 2) hW1 (ev_op (ev_op (ev_var rfl) ev_c (rv_ixL (sq_of hW1) rfl)) ev_c rv_I0) (ev_var rfl) ev_c (by show 2 < 3; decide) fun H2 e2 => ?_
      have hW2 : upd H2 a (.lst ([.int x, .int y, .int c].set 2 (.int (c + 1)))) a = some (.lst [.int x, .int y, .int (c + 1)]) := upd_same
      have hS2 := sq_of (K := K) hW2
      refine q_asg (ev_op (ev_op (ev_int1 (ev_op (ev_op (ev_var rfl) ev_c (rv_ixL hS2 rfl)) (ev_op ev_c (ev_op (ev_var rfl) ev_c (rv_ixL hS2 rfl)) (rv_I (cml (by decide)))) rv_I0)) ev_c (rv_I (cpw (by omega) (by decide) (by decide)))) (ev_op (ev_op ev_c ev_c (rv_I (cpw (by decide) (by decide) (by decide)))) ev_c rv_I0) (rv_I (by have := p10_pos (Int.toNat 26); omega))) fun H3 e3 => ?_
      have hS3 := ex_l e3 hS2
      have b0 := Int.emod_nonneg ((y + 67867967 * (c + 1)) ^ Int.toNat 2) (show (10 : Int) ^ Int.toNat 26 + 67 ≠ 0 by have := p10_pos (Int.toNat 26); omega)
      have b1 := Int.emod_lt_of_pos ((y + 67867967 * (c + 1)) ^ Int.toNat 2) (show (0 : Int) < 10 ^ Int.toNat 26 + 67 by have := p10_pos (Int.toNat 26); omega)
      have e26 : (10 : Int) ^ Int.toNat 26 = 100000000000000000000000000 := by decide
      refine q_asg (ev_op (ev_op (ev_int1 (ev_op (ev_op (ev_op (ev_var rfl) ev_c (rv_I (.inr (by decide)))) (ev_op (ev_var rfl) ev_c (rv_ixL hS3 rfl)) rv_I0) (ev_op (ev_var rfl) ev_c (rv_ixL hS3 rfl)) rv_I0)) ev_c (rv_I (cpw (by omega) (by decide) (by decide)))) (ev_op (ev_op ev_c ev_c (rv_I (cpw (by decide) (by decide) (by decide)))) ev_c rv_I0) (rv_I (by have := p10_pos (Int.toNat 24); omega))) fun H4 e4 => ?_
      refine s_ret (ev_op (ev_int1 (ev_op (ev_var rfl) ev_c (rv_I (cdw _ (by decide) (by decide))))) (ev_var rfl) (rv_I m0)) fun H5 e5 => ?_
      refine q _ H5 ((((But.ex (e1.trans e2)).trans .at).trans (But.ex (e3.trans e4))).trans (But.ex e5)) ⟨_, _, _, e5 _ _ (e4 _ _ (e3 _ _ hW2)), y0, y1, by omega, by omega⟩ (Int.emod_nonneg _ (by omega)) (Int.emod_lt_of_pos _ m0)
/-! ### _law_common -/
def sp_law_common (K : PySem.W.Frag) : Sp := fun vs H Q _ => ∃ (x y : Nat), vs = [.int (x : Int), .int (y : Int)] ∧ x ≤ 4000 ∧ y ≤ 4000 ∧ RetV (.int ((Nat.gcd x y : Nat) : Int)) H Q
theorem v_law_common {K : PySem.W.Frag} {H : Hp} {x y : Nat} (h0 : x ≤ 4000) (h1 : y ≤ 4000) : SpV (sp_law_common K) [.int (x : Int), .int (y : Int)] H (.int ((Nat.gcd x y : Nat) : Int)) := fun H1 e Q q E => ⟨x, y, rfl, h0, h1, q⟩
theorem ok_law_common (T : Txt K mg) : FnG P w K mg base CX0 1 T.a_law_common T.d_law_common ["one", "other"] (sp_law_common K) := by
  refine okG T.F_law_common sc_law_common (fun vs H Q E h => ?_) (fun cdv A out s H vs Q E hr h => ?_)
  · obtain ⟨x, y, rfl, h0, h1, q⟩ := h
    rfl
  · obtain ⟨x, y, rfl, h0, h1, q⟩ := h
    refine ⟨_, (pss_cons (ps_while PassesOwn.never (pt_cmpR op_gt (pv 1) pe_int (nomark _))
      (pss_one (ps_par (i := 0) (j := 1) (by rfl) sc_law_common.nd rfl rfl (by decide) rfl rfl (pa_cons (pv 1) (pa_cons (pe_op op_mod (pe_callTy call_int1 (by rfl) T.z_int bt_int (pa_cons (pv 0) pa_nil)) (pv 1)) pa_nil)) (by rfl))))
    (pss_one (ps_ret (pv 0)))), ?_⟩
    refine q_while (fun m σ' H' => ∃ u v : Nat, m = v ∧ Nat.gcd u v = Nat.gcd x y ∧ σ' = [some (.int (u : Int)), some (.int (v : Int))] ∧ Ex H H') y ?_ ?_
    · exact ⟨x, y, rfl, rfl, rfl, Ex.refl H⟩
    rintro t σq H4 ⟨u, v, rfl, hg, rfl, e⟩
    refine ⟨decide (0 < t), et_is (et_test (ev_op (ev_var rfl) ev_c (rv_b rfl))) (by simp), ?_, ?_⟩
    · intro hz H5 e5
      have t0 : 0 < t := of_decide_eq_true hz
      refine ⟨_, fun σ2 H2 h => h, ?_⟩
      refine s_parVV (ev_var rfl) (ev_is (ev_op (ev_int1 (ev_var rfl)) (ev_var rfl) (rv_I (show (0 : Int) < (t : Int) by omega))) (show _ = V.int ((u % t : Nat) : Int) by rw [Int.natCast_emod])) fun H6 e6 => ?_
      exact ⟨u % t, Nat.mod_lt _ t0, t, u % t, rfl, by rw [Nat.gcd_comm, ← Nat.gcd_rec, Nat.gcd_comm]; exact hg, rfl, (e.trans e5).trans e6⟩
    · intro hz H5 e5
      have t0 : t = 0 := by have := of_decide_eq_false hz; omega
      subst t0
      rw [Nat.gcd_zero_right] at hg
      rw [← hg] at q
      exact s_ret (ev_var rfl) fun H6 e6 => q H6 ((e.trans e5).trans e6)
/-! ### _law_told_lengths -/
def sp_law_told_lengths (K : PySem.W.Frag) : Sp := fun vs H Q _ => ∃ (a : Addr) (c : List Int), vs = [.ref a] ∧ SqL K H a (vi c) ∧ c.length ≤ 60 ∧ (∀ x ∈ c, 0 ≤ x ∧ x ≤ 400) ∧ RetL (vi (toldL c)) H Q
theorem l_law_told_lengths {K : PySem.W.Frag} {H : Hp} {a : Addr} {c : List Int} (h : SqL K H a (vi c)) (h1 : c.length ≤ 60) (h2 : ∀ x ∈ c, 0 ≤ x ∧ x ≤ 400) : SpL (sp_law_told_lengths K) [.ref a] H (vi (toldL c)) := fun H1 e Q q E => ⟨a, c, rfl, ex_l e h, h1, h2, q⟩
theorem ok_law_told_lengths (T : Txt K mg) : FnG P w K mg base CX0 1 T.a_law_told_lengths T.d_law_told_lengths ["counts"] (sp_law_told_lengths K) := by
  refine okG T.F_law_told_lengths sc_law_told_lengths (fun vs H Q E h => ?_) (fun cdv A out s H vs Q E hr h => ?_)
  · obtain ⟨a, c, rfl, hS, h1, h2, q⟩ := h
    rfl
  · obtain ⟨a, c, rfl, hS, h1, h2, q⟩ := h
    refine ⟨_, (pss_cons (ps_set (i := 1) sc_law_told_lengths.nd rfl (.inl rfl) (pe_lst pa_nil))
    (pss_cons (ps_for PassesOwn.never rfl (pi_enum (by rfl) T.z_enumerate (pa_cons (pv 0) pa_nil)) (pg_tup rfl (pgs_cons (pg_name (i := 2) sc_law_told_lengths.nd rfl (.inl rfl)) (pgs_cons (pg_name (i := 3) sc_law_told_lengths.nd rfl (.inl rfl)) pgs_nil)))
      (pss_one (ps_expr (pe_bm PySem.F.plainAttrs_list PySem.F.slot_list_extend PySem.F.type_list_extend mt_extend (pv 1) (pa_cons (pe_op op_rep (pe_lst (pa_cons (pe_op op_add (pv 2) pe_int) pa_nil)) (pv 3)) pa_nil)))))
    (pss_one (ps_ret (pv 1))))), ?_⟩
    refine q_asgL (el_lst ea_nil (Nat.zero_le _)) fun p H1 hp e1 ga1 => ?_
    have cp : ∀ k, 0 ≤ c.getD k 0 ∧ c.getD k 0 ≤ 400 := fun k => by
      rw [List.getD_eq_getElem?_getD]
      cases g : c[k]? with
      | none => exact ⟨Int.le_refl _, by decide⟩
      | some z => exact h2 z (List.mem_of_getElem? g)
    have tl : ∀ m, (((List.range m).map fun k => List.replicate (c.getD k 0).toNat (k + 1)).flatten).length ≤ 400 * m := fun m => by
      induction m with
      | zero => exact Nat.le_refl _
      | succ m ih =>
        rw [List.range_succ, List.map_append, List.flatten_append, List.length_append]
        show _ + (List.replicate (c.getD m 0).toNat (m + 1) ++ []).length ≤ _
        rw [List.append_nil, List.length_replicate]
        have := cp m
        omega
    refine q_forEn (ev_var rfl) (ex_l e1 hS) (fun m σ' H' => ∃ (y2 y3 : Option V), σ' = [some (.ref a), some (.ref p), y2, y3] ∧ Ex H H' ∧ H' p = some (.lst (vi (up (((List.range m).map fun k => List.replicate (c.getD k 0).toNat (k + 1)).flatten))))) ?_ ?_ ?_ ?_
    · intro H2 e2
      exact ⟨_, _, rfl, e1.trans e2, e2 _ _ ga1⟩
    · rintro m σ' H' _ ⟨y2, y3, rfl, e, _⟩
      exact ex_l e hS
    · rintro m x σ' H' hx ⟨y2, y3, rfl, e, g⟩ H2 e2
      obtain ⟨z, rfl, _, hz⟩ := vi_inv hx
      have hm : m < c.length := by
        have := (List.getElem?_eq_some_iff.mp hx).1
        rwa [List.length_map] at this
      have cz := cp m
      rw [hz] at cz
      have t0 := tl m
      refine s_ext (ys := vi (up (List.replicate z.toNat (m + 1)))) (e2 _ _ g) (ev_var rfl) (el_is (el_rep (n := z) (el_lst (ea_cons (ev_op (ev_var rfl) ev_c rv_I0) ea_nil) (by show 1 ≤ 100000; decide)) (fun _ _ => ev_var rfl) (by omega) (by show 1 * _ ≤ _; omega) (by omega)) ?_) (by unfold up; rw [List.length_map, List.length_map, List.length_map, List.length_map, List.length_replicate]; omega) fun H3 e3 => ?_
      · rw [flat_rep]
        unfold vi up
        simp only [List.map_replicate]
        rfl
      · refine ⟨_, _, rfl, ((e.trans e2).trans e3).mut hp, ?_⟩
        rw [upd_same, vi_app]
        congr 3
        unfold up
        rw [List.range_succ, List.map_append, List.flatten_append, List.map_append]
        show _ = _ ++ List.map _ (List.replicate (c.getD m 0).toNat (m + 1) ++ [])
        rw [List.append_nil, hz]
    · rintro σ' H' ⟨y2, y3, rfl, e, g⟩
      rw [List.length_map] at g
      exact s_ret (ev_var rfl) fun H3 e3 => q p H3 hp (e.trans e3) (e3 _ _ g)
/-! ### is_from_to -/
def sp_is_from_to (K : PySem.W.Frag) : Sp := fun vs H Q _ => ∃ (m lo hi : Int), vs = [.int m, .int lo, .int hi] ∧ RetV (.bl (decide (lo ≤ m) && decide (m ≤ hi))) H Q
theorem v_is_from_to {K : PySem.W.Frag} {H : Hp} {m lo hi : Int} : SpV (sp_is_from_to K) [.int m, .int lo, .int hi] H (.bl (decide (lo ≤ m) && decide (m ≤ hi))) := fun H1 e Q q E => ⟨m, lo, hi, rfl, q⟩
theorem ok_is_from_to (T : Txt K mg) : FnG P w K mg base CX0 2 T.a_is_from_to T.d_is_from_to ["value", "least", "most"] (sp_is_from_to K) := by
  refine okG T.F_is_from_to sc_is_from_to (fun vs H Q E h => ?_) (fun cdv A out s H vs Q E hr h => ?_)
  · obtain ⟨m, lo, hi, rfl, q⟩ := h
    rfl
  · obtain ⟨m, lo, hi, rfl, q⟩ := h
    refine ⟨_, (pss_one (ps_ret (pe_and (callG (ok_is_whole T) (hr.mono (by decide)) (by rfl) T.g_is_whole T.F_is_whole.kp (b_is_whole T) .nil pass0 (pa_cons (pv 0) pa_nil)) (pe_one (pe_chain op_le op_le (pv 1) (pv 0) (pv 2)))))), ?_⟩
    exact s_ret (ev_is (ev_andV (a := true) (ev_call (ea_cons (ev_var rfl) ea_nil) (v_is_whole m)) fun _ => ev_chain (ev_var rfl) (ev_var rfl) (rv_b rfl) (fun _ => ev_var rfl) fun _ => rv_b rfl) (by rw [Bool.true_and])) q
/-! ### check_row -/
def sp_check_row (K : PySem.W.Frag) : Sp := fun vs H Q _ => ∃ (a : Addr) (ns : List Int), vs = [.ref a] ∧ SqL K H a (vi ns) ∧ 0 < ns.length ∧ ns.length ≤ 4000 ∧ RetV .non H Q
theorem v_check_row {K : PySem.W.Frag} {H : Hp} {a : Addr} {ns : List Int} (h : SqL K H a (vi ns)) (h0 : 0 < ns.length) (h1 : ns.length ≤ 4000) : SpV (sp_check_row K) [.ref a] H .non := fun H1 e Q q E => ⟨a, ns, rfl, ex_l e h, h0, h1, q⟩
theorem ok_check_row (T : Txt K mg) : FnG P w K mg base CX0 2 T.a_check_row T.d_check_row ["row"] (sp_check_row K) := by
  refine okG T.F_check_row sc_check_row (fun vs H Q E h => ?_) (fun cdv A out s H vs Q E hr h => ?_)
  · obtain ⟨a, ns, rfl, hS, h0, h1, q⟩ := h
    rfl
  · obtain ⟨a, ns, rfl, hS, h0, h1, q⟩ := h
    refine ⟨_, (pss_cons (ps_if (PW.pt (pw_or (pt_not (pt_val (pe_callB (call_isiK' (K := K) rfl) (by rfl) T.z_isinstance bt_isinstance (pa_cons (pv 0) (pa_cons (pe_bltn (v := .ty "list") (by rfl) T.z_list bt_list rfl) pa_nil))))) (pw_or1 (pt_cmpR op_eq (pe_callB (call_lenK (K := K) rfl) (by rfl) T.z_len bt_len (pa_cons (pv 0) pa_nil)) pe_int (nomark _)))))
      (pss_one ps_never)
      pss_nil)
    (pss_one (ps_if (pt_not (pt_val (pe_callB (cr_allK (K := K) rfl rfl) (by rfl) T.z_all bt_all (pa_cons (pe_lc (own := [("number", 1)]) (g := gName 1) rfl sc_check_row.nd (pi_listK (K := K) rfl (pv 0)) (blkOk_by (own := [("number", 1)]) (N := ["row", "number"]) (sc := defScope s_check_row) (by decide +kernel)) (fun _ _ _ _ _ => (pg_name (i := 1) sc_check_row.nd rfl (Or.inl rfl))) (fun _ _ _ _ _ => pts_nil) (fun _ _ _ _ _ => (callG (ok_is_whole T) (hr.mono (by decide)) (by rfl) T.g_is_whole T.F_is_whole.kp (b_is_whole T) .nil pass0 (pa_cons (pv 1) pa_nil)))) pa_nil))))
      (pss_one ps_never)
      pss_nil))), ?_⟩
    refine q_when (b := false) (et_or (a := false) (b := false) (et_not (a := true) (et_B (ev_isi (ev_var rfl) (fun H1 e => ty_seql (ex_l e hS)) kb_list_list))) fun _ => et_is (et_test (ev_op (ev_len (ev_var rfl) hS) ev_c (rv_eq rfl))) ?_) (fun h => nomatch h) (fun _ H1 e1 => ?_)
    · exact decide_eq_false fun z => by
        have z' : ((vi ns).length : Int) = 0 := V.int.inj z
        rw [List.length_map] at z'
        omega
    refine s_when (b := false) (et_not (a := true) (et_B (ev_is (ev_allN (bs := List.replicate ns.length true) (el_is (el_lcL (fun _ => true) (fun _ => V.bl true) (ev_var rfl) (ex_l e1 hS) (by rw [List.length_map]; omega) (fun _ => rfl) (fun _ _ _ _ _ => et_yes) ?_) ?_)) ?_))) (fun h => nomatch h) fun _ H2 e2 => q H2 (e1.trans e2)
    · intro i x H2 e2 hx _
      obtain ⟨m, rfl, hm, hg⟩ := vi_inv hx
      exact ev_call (ea_cons (ev_var rfl) ea_nil) (v_is_whole m)
    · rw [given_all, List.length_map, List.map_replicate]
      refine List.ext_getElem? fun i => ?_
      rw [List.getElem?_map, List.getElem?_replicate]
      by_cases hi : i < ns.length
      · rw [List.getElem?_range hi, if_pos hi]
        rfl
      · rw [List.getElem?_eq_none (by rw [List.length_range]; omega), if_neg hi]
        rfl
    · rw [show (List.replicate ns.length true).all id = true by simp]
/-! ### check_counts -/
def sp_check_counts (K : PySem.W.Frag) : Sp := fun vs H Q _ => ∃ (a : Addr) (ns : List Int), vs = [.ref a] ∧ SqL K H a (vi ns) ∧ 0 < ns.length ∧ (∀ n ∈ ns, 0 ≤ n) ∧ RetV .non H Q
theorem v_check_counts {K : PySem.W.Frag} {H : Hp} {a : Addr} {ns : List Int} (h : SqL K H a (vi ns)) (h0 : 0 < ns.length) (hn : ∀ n ∈ ns, 0 ≤ n) : SpV (sp_check_counts K) [.ref a] H .non := fun H1 e Q q E => ⟨a, ns, rfl, ex_l e h, h0, hn, q⟩
theorem ok_check_counts (T : Txt K mg) : FnG P w K mg base CX0 2 T.a_check_counts T.d_check_counts ["counts"] (sp_check_counts K) := by
  refine okG T.F_check_counts sc_check_counts (fun vs H Q E h => ?_) (fun cdv A out s H vs Q E hr h => ?_)
  · obtain ⟨a, ns, rfl, hS, h0, hn, q⟩ := h
    rfl
  · obtain ⟨a, ns, rfl, hS, h0, hn, q⟩ := h
    refine ⟨_, (pss_cons (ps_if (PW.pt (pw_or (pt_not (pt_val (pe_callB (call_isiK' (K := K) rfl) (by rfl) T.z_isinstance bt_isinstance (pa_cons (pv 0) (pa_cons (pe_bltn (v := .ty "list") (by rfl) T.z_list bt_list rfl) pa_nil))))) (pw_or1 (pt_cmpR op_eq (pe_callB (call_lenK (K := K) rfl) (by rfl) T.z_len bt_len (pa_cons (pv 0) pa_nil)) pe_int (nomark _)))))
      (pss_one ps_never)
      pss_nil)
    (pss_one (ps_for PassesOwn.never rfl (pi_enum (by rfl) T.z_enumerate (pa_cons (pv 0) pa_nil)) (pg_tup rfl (pgs_cons (pg_name (i := 1) sc_check_counts.nd rfl (.inl rfl)) (pgs_cons (pg_name (i := 2) sc_check_counts.nd rfl (.inl rfl)) pgs_nil)))
      (pss_one (ps_if (PW.pt (pw_or (pt_not (pt_val (callG (ok_is_whole T) (hr.mono (by decide)) (by rfl) T.g_is_whole T.F_is_whole.kp (b_is_whole T) .nil pass0 (pa_cons (pv 2) pa_nil)))) (pw_or1 (pt_cmpR op_lt (pv 2) pe_int (nomark _)))))
        (pss_one ps_never)
        pss_nil))))), ?_⟩
    refine q_when (b := false) (et_or (a := false) (b := false) (et_not (a := true) (et_B (ev_isi (ev_var rfl) (fun H1 e => ty_seql (ex_l e hS)) kb_list_list))) fun _ => et_is (et_test (ev_op (ev_len (ev_var rfl) hS) ev_c (rv_eq rfl))) ?_) (fun h => nomatch h) (fun _ H1 e1 => ?_)
    · exact decide_eq_false fun z => by
        have z' : ((vi ns).length : Int) = 0 := V.int.inj z
        rw [List.length_map] at z'
        omega
    refine s_forEn (ev_var rfl) (ex_l e1 hS) (fun i σ' H' => ∃ y1 y2, σ' = [some (.ref a), y1, y2] ∧ Ex H H') (fun H2 e2 => ⟨none, none, rfl, e1.trans e2⟩) ?_ ?_ ?_
    · rintro i σ' H' _ ⟨_, _, _, e⟩
      exact ex_l e hS
    · rintro i x σ' H' hx ⟨y1, y2, rfl, e⟩ H2 e2
      rw [List.getElem?_map] at hx
      cases hg : ns[i]? with
      | none =>
        rw [hg] at hx
        cases hx
      | some n =>
        rw [hg] at hx
        cases hx
        have n0 := hn n (List.mem_of_getElem? hg)
        refine s_when (b := false) (et_or (a := false) (b := false) (et_not (a := true) (et_B (ev_call (ea_cons (ev_var rfl) ea_nil) (v_is_whole n)))) fun _ => et_is (et_test (ev_op (ev_var rfl) ev_c rv_I0)) (decide_eq_false (by omega))) (fun h => nomatch h) (fun _ H3 e3 => ?_)
        exact ⟨_, _, rfl, (e.trans e2).trans e3⟩
    · rintro σ' H' ⟨_, _, _, e⟩
      exact q H' e
/-! ### check_shuffle -/
def sp_check_shuffle (K : PySem.W.Frag) : Sp := fun vs H Q _ => ∃ (a : Addr) (ns : List Int), vs = [.ref a] ∧ SqT K H a (vi ns) ∧ Shf ns ∧ RetV .non H Q
theorem v_check_shuffle {K : PySem.W.Frag} {H : Hp} {a : Addr} {ns : List Int} (h : SqT K H a (vi ns)) (s : Shf ns) : SpV (sp_check_shuffle K) [.ref a] H .non := fun H1 e Q q E => ⟨a, ns, rfl, ex_t e h, s, q⟩
theorem ok_check_shuffle (T : Txt K mg) : FnG P w K mg base CX0 2 T.a_check_shuffle T.d_check_shuffle ["shuffle"] (sp_check_shuffle K) := by
  refine okG T.F_check_shuffle sc_check_shuffle (fun vs H Q E h => ?_) (fun cdv A out s H vs Q E hr h => ?_)
  · obtain ⟨a, ns, rfl, hS, sh, q⟩ := h
    rfl
  · obtain ⟨a, ns, rfl, hS, sh, q⟩ := h
    refine ⟨_, (pss_cons (ps_if (PW.pt (pw_or (pt_not (pt_val (pe_callB (call_isiK' (K := K) rfl) (by rfl) T.z_isinstance bt_isinstance (pa_cons (pv 0) (pa_cons (pe_bltn (v := .ty "tuple") (by rfl) T.z_tuple bt_tuple rfl) pa_nil))))) (pw_or1 (pt_not (pt_chain op_le op_le pe_int (pe_callB (call_lenK (K := K) rfl) (by rfl) T.z_len bt_len (pa_cons (pv 0) pa_nil)) (pe_glob (v := .int 300) rfl T.c_MOST_THINGS ⟨_, rfl⟩))))))
      (pss_one ps_never)
      pss_nil)
    (pss_cons (ps_if (pt_not (pt_val (pe_callB (cr_allK (K := K) rfl rfl) (by rfl) T.z_all bt_all (pa_cons (pe_lc (own := [("place", 1)]) (g := gName 1) rfl sc_check_shuffle.nd (pi_tupK (K := K) rfl (pv 0)) (blkOk_by (own := [("place", 1)]) (N := ["shuffle", "place"]) (sc := defScope s_check_shuffle) (by decide +kernel)) (fun _ _ _ _ _ => (pg_name (i := 1) sc_check_shuffle.nd rfl (Or.inl rfl))) (fun _ _ _ _ _ => pts_nil) (fun _ _ _ _ _ => (callG (ok_is_whole T) (hr.mono (by decide)) (by rfl) T.g_is_whole T.F_is_whole.kp (b_is_whole T) .nil pass0 (pa_cons (pv 1) pa_nil)))) pa_nil))))
      (pss_one ps_never)
      pss_nil)
    (pss_one (ps_if (pt_cmpR (op_neDK (K := K) rfl hr.rm.units) (pe_callB cr_sortedTup (by rfl) T.z_sorted bt_sorted (pa_cons (pv 0) pa_nil)) (pe_listRg rfl (by rfl) T.z_list (prg_1 (by rfl) T.z_range (pe_callB (call_lenK (K := K) rfl) (by rfl) T.z_len bt_len (pa_cons (pv 0) pa_nil)))) (nomark _))
      (pss_one ps_never)
      pss_nil)))), ?_⟩
    have hl : ((vi ns).length : Int) = (ns.length : Int) := by rw [List.length_map]
    have hs := sh
    obtain ⟨s0, s1, s2⟩ := sh
    refine q_when (b := false) (et_or (a := false) (b := false) (et_not (a := true) (et_B (ev_isi (ev_var rfl) (fun H1 e => ty_seqt (ex_t e hS)) kb_tuple_tuple))) fun _ => et_not (a := true) (et_test (ev_chain (a := true) (b := true) ev_c (ev_lenT (ev_var rfl) hS) (rv_b (decide_eq_true (by omega))) (fun _ => ev_c) fun _ => rv_b (decide_eq_true (by omega))))) (fun h => nomatch h) fun _ H1 e1 => ?_
    refine q_when (b := false) (et_not (a := true) (et_B (ev_is (ev_allN (bs := List.replicate ns.length true) (el_is (el_lcT (fun _ => true) (fun _ => V.bl true) (ev_var rfl) (ex_t e1 hS) (by rw [List.length_map]; omega) (fun _ => rfl) (fun _ _ _ _ _ => et_yes) ?_) ?_)) ?_))) (fun h => nomatch h) fun _ H2 e2 => ?_
    · intro i x H2 e2 hx _
      obtain ⟨m, rfl, hm, hg⟩ := vi_inv hx
      exact ev_call (ea_cons (ev_var rfl) ea_nil) (v_is_whole m)
    · rw [given_all, List.length_map, List.map_replicate]
      refine List.ext_getElem? fun i => ?_
      rw [List.getElem?_map, List.getElem?_replicate]
      by_cases hi : i < ns.length
      · rw [List.getElem?_range hi, if_pos hi]
        rfl
      · rw [List.getElem?_eq_none (by rw [List.length_range]; omega), if_neg hi]
        rfl
    · rw [show (List.replicate ns.length true).all id = true by simp]
    refine s_when (b := false) (et_is (et_test (ev_neLL (el_sortedT (ev_var rfl) (ex_t (e1.trans e2) hS) s2 (iota_sorted _)) (el_is (el_rg1 (ev_is (ev_lenT (ev_var rfl) (ex_t (e1.trans e2) hS)) (by rw [hl])) (by omega) (by omega)) (rgV_iota _)))) (by simp)) (fun h => nomatch h) fun _ H3 e3 => ?_
    exact q H3 ((e1.trans e2).trans e3)
/-! ### _law_drawn -/
def G20 : Int := 100000000000000000000
def Dr (m : Nat) (cs : List Int) : Prop := cs.length = m ∧ ∀ c ∈ cs, 0 ≤ c ∧ c ≤ G20
def sp_law_drawn (K : PySem.W.Frag) : Sp := fun vs H Q _ => ∃ (a : Addr) (n m : Nat), vs = [.ref a, .int (m : Int)] ∧ Well H a n ∧ n + 100 ≤ 2 ^ 50 ∧ m ≤ 30 ∧ ∀ p cs H2, H p = none → But a H H2 → Well H2 a (n + 100) → H2 p = some (.lst (vi cs)) → Dr m cs → Q (.ref p) H2
theorem wl_law_drawn {K : PySem.W.Frag} {E : XK} {σ : L2.St} {H : Hp} {a : Addr} {d : Nat} {t : TA} {m : Nat} (h1 : m ≤ 30) (h : EvWA a d t σ H (fun vs => vs = [.ref a, .int (m : Int)])) :
    EvWL a (d + 100) (tCall (sp_law_drawn K) [] E t) σ H (fun xs => ∃ cs, xs = vi cs ∧ Dr m cs) :=
  ewl_callA h fun vs n H1 e w l Q q E => ⟨a, n, m, e, w, l, h1, fun p cs H2 hp b w2 g ok => q p (vi cs) H2 hp b w2 g ⟨cs, rfl, ok⟩⟩
theorem ok_law_drawn (T : Txt K mg) : FnG P w K mg base CX0 2 T.a_law_drawn T.d_law_drawn ["flask", "many"] (sp_law_drawn K) := by
  refine okG T.F_law_drawn sc_law_drawn (fun vs H Q E h => ?_) (fun cdv A out s H vs Q E hr h => ?_)
  · obtain ⟨a, n, m, rfl, hw, hn, h1, q⟩ := h
    rfl
  · obtain ⟨a, n, m, rfl, hw, hn, h1, q⟩ := h
    refine ⟨_, (pss_cons (ps_set (i := 2) sc_law_drawn.nd rfl (.inr rfl) (pe_ix (ix_listK (K := K) rfl) (pe_lst (pa_cons pe_int (pa_cons pe_int (pa_cons (pe_op op_powW pe_int pe_int) pa_nil)))) (callG (ok_law_sip T) (hr.mono (by decide)) (by rfl) T.g_law_sip T.F_law_sip.kp (b_law_sip T) .nil pass0 (pa_cons (pv 0) (pa_cons pe_int pa_nil))) (fun _ _ => rfl)))
    (pss_one (ps_ret (pe_lc (own := [("n", 3)]) (g := gName 3) rfl sc_law_drawn.nd (pi_range1 (by rfl) T.z_range (pa_cons (pv 1) pa_nil)) (blkOk_by (own := [("n", 3)]) (N := ["flask", "many", "greatest", "n"]) (sc := defScope s_law_drawn) (by decide +kernel)) (fun _ _ _ _ _ => (pg_name (i := 3) sc_law_drawn.nd rfl (Or.inl rfl))) (fun _ _ _ _ _ => pts_nil) (fun _ _ _ _ _ => (pe_op op_mul (callG (ok_law_sip T) (hr.mono (by decide)) (by rfl) T.g_law_sip T.F_law_sip.kp (b_law_sip T) .nil pass0 (pa_cons (pv 0) (pa_cons (pe_op op_add (pv 2) pe_int) pa_nil))) (pe_callTy call_int1 (by rfl) T.z_int bt_int (pa_cons (pe_cmpR op_gt (callG (ok_law_sip T) (hr.mono (by decide)) (by rfl) T.g_law_sip T.F_law_sip.kp (b_law_sip T) .nil pass0 (pa_cons (pv 0) (pa_cons pe_int pa_nil))) pe_int (nomark _)) pa_nil)))))))), ?_⟩
    refine qw_asg (P := fun v => ∃ g : Int, v = .int g ∧ 0 < g ∧ g ≤ G20) (ew_ix (xs := [.int 1, .int 3, .int (10 ^ 20)]) (el_lst (ea_cons ev_c (ea_cons ev_c (ea_cons (ev_op ev_c ev_c (rv_I (cpw (by decide) (by decide) (by decide)))) ea_nil))) (by show 3 ≤ 100000; decide)) (ew_drawC (m := 3) rfl ev_c (by decide) (lt8000 (by decide))) ?_) hw (by omega) ?_
    · rintro v ⟨r, rfl, r0, r1⟩
      obtain ⟨j, rfl⟩ : ∃ j : Nat, r = j := ⟨r.toNat, by omega⟩
      match j, r1 with
      | 0, _ => exact ⟨_, _, rfl, rfl, 1, rfl, by decide, by decide⟩
      | 1, _ => exact ⟨_, _, rfl, rfl, 3, rfl, by decide, by decide⟩
      | 2, _ => exact ⟨_, _, rfl, rfl, 10 ^ 20, rfl, by decide, by decide⟩
      | j + 3, r1 => omega
    rintro _ H1 b1 w1 ⟨g, rfl, g0, g1⟩
    have g2 : g + 1 < 2 ^ 8000 := lt8000 (Int.lt_of_le_of_lt (show g + 1 ≤ G20 + 1 by omega) (by decide))
    refine sw_retL (P := fun xs => ∃ cs, xs = vi cs ∧ Dr m cs) (ewl_mono (ewl_lcR1 (N := 30) (P := fun r => r = (m : Int)) (PE := fun v => ∃ z, v = .int z ∧ 0 ≤ z ∧ z ≤ G20) (ew_pure (ev_var rfl) ⟨_, rfl, rfl⟩) (fun r hr => by omega) (by decide) (fun _ => rfl) fun i H2 b2 => ew_mul (P := fun z => 0 ≤ z ∧ z ≤ G20) (ew_drawC (m := g + 1) rfl (ev_op (ev_var rfl) ev_c rv_I0) (by omega) g2) (ew_intB (ew_gt (P2 := fun r => r = 0) (ew_drawC (m := 3) rfl ev_c (by decide) (lt8000 (by decide))) (ew_c rfl))) (fun x y hx hy => .inr (by rcases hy with rfl | rfl <;> decide)) ?_) ?_) w1 (by omega) ?_
    · rintro x y ⟨x0, x1⟩ (rfl | rfl)
      · rw [Int.mul_zero]
        exact ⟨by decide, by decide⟩
      · rw [Int.mul_one]
        omega
    · rintro xs ⟨r, hr, el, hx⟩
      obtain ⟨cs, rfl, hc⟩ := vi_of hx
      rw [List.length_map] at el
      exact ⟨cs, rfl, by omega, hc⟩
    rintro p _ H2 hp b2 w2 h2 ⟨cs, rfl, ok⟩
    exact q p cs H2 (but_free b1 w1 hp) (b1.trans b2) (w2.mono (by omega)) h2 ok
/-! ### _law_paired -/
def sp_law_paired (K : PySem.W.Frag) : Sp := fun vs H Q _ => ∃ (a b : Addr) (c d : List Int) (m : Nat), vs = [.ref a, .ref b, .int (m : Int)] ∧ SqL K H a (vi c) ∧ SqL K H b (vi d) ∧ c.length = m ∧ d.length = m ∧ m ≤ 60 ∧ (∀ i, (c.getD i 0).natAbs < 2 ^ 200) ∧ (∀ i, (d.getD i 0).natAbs < 2 ^ 200) ∧ RetL (vi (pairC c d m)) H Q
theorem l_law_paired {K : PySem.W.Frag} {H : Hp} {a b : Addr} {c d : List Int} {m : Nat} (ha : SqL K H a (vi c)) (hb : SqL K H b (vi d)) (h1 : c.length = m) (h2 : d.length = m) (h3 : m ≤ 60) (hc : ∀ i, (c.getD i 0).natAbs < 2 ^ 200) (hd : ∀ i, (d.getD i 0).natAbs < 2 ^ 200) : SpL (sp_law_paired K) [.ref a, .ref b, .int (m : Int)] H (vi (pairC c d m)) := fun H1 e Q q E => ⟨a, b, c, d, m, rfl, ex_l e ha, ex_l e hb, h1, h2, h3, hc, hd, q⟩
theorem ok_law_paired (T : Txt K mg) : FnG P w K mg base CX0 2 T.a_law_paired T.d_law_paired ["one", "two", "many"] (sp_law_paired K) := by
  refine okG T.F_law_paired sc_law_paired (fun vs H Q E h => ?_) (fun cdv A out s H vs Q E hr h => ?_)
  · obtain ⟨a, b, c, d, m, rfl, hA, hB, h1, h2, h3, hc, hd, q⟩ := h
    rfl
  · obtain ⟨a, b, c, d, m, rfl, hA, hB, h1, h2, h3, hc, hd, q⟩ := h
    refine ⟨_, (pss_cons (ps_setLc (i := 3) (own := [("n", 9)]) (g := gName 9) rfl sc_law_paired.nd rfl rfl (sw_true rfl rfl rfl (by decide +kernel)) (pi_range1 (by rfl) T.z_range (pa_cons (pv 2) pa_nil)) (blkOk_by (own := [("n", 9)]) (N := ["one", "two", "many", "found", "a", "b", "common", "place", "part", "n"]) (sc := defScope s_law_paired) (by decide +kernel)) (fun _ _ _ _ _ => (pg_name (i := 9) sc_law_paired.nd rfl (Or.inl rfl))) (fun _ _ _ _ _ => pts_nil) (fun _ _ _ _ _ => pe_int))
    (pss_cons (ps_for PassesOwn.never rfl (pi_range2 (by rfl) T.z_range (pa_cons pe_int (pa_cons (pe_op op_add (pv 2) pe_int) pa_nil))) (pg_name (i := 4) sc_law_paired.nd rfl (.inl rfl))
      (pss_one (ps_for PassesOwn.never rfl (pi_range2 (by rfl) T.z_range (pa_cons pe_int (pa_cons (pe_op op_add (pv 2) pe_int) pa_nil))) (pg_name (i := 5) sc_law_paired.nd rfl (.inl rfl))
        (pss_cons (ps_set (i := 6) sc_law_paired.nd rfl (.inl rfl) (callG (ok_law_common T) (hr.mono (by decide)) (by rfl) T.g_law_common T.F_law_common.kp (b_law_common T) .nil pass0 (pa_cons (pv 4) (pa_cons (pv 5) pa_nil))))
        (pss_cons (ps_set (i := 7) sc_law_paired.nd rfl (.inl rfl) (pe_op op_sub (pe_op op_mulW (pe_op op_fdivW (pv 4) (pv 6)) (pv 5)) pe_int))
        (pss_one (ps_if (pt_cmpR op_lt (pv 7) (pv 2) (nomark _))
          (pss_cons (ps_set (i := 8) sc_law_paired.nd rfl (.inl rfl) (pe_op op_mulW (pe_op op_mulW (pv 6) (pe_ix (ix_listK (K := K) rfl) (pv 0) (pe_op op_sub (pv 4) pe_int) (fun _ _ => rfl))) (pe_ix (ix_listK (K := K) rfl) (pv 1) (pe_op op_sub (pv 5) pe_int) (fun _ _ => rfl))))
          (pss_one (ps_asg (pe_op op_add (pe_ix (ix_listK (K := K) rfl) (pv 3) (pv 7) (fun _ _ => rfl)) (pv 8)) (pg_sub (pv 3) (pv 7) set_list))))
          pss_nil)))))))
    (pss_one (ps_ret (pv 3))))), ?_⟩
    refine q_asgL (xs := vi (tabL m fun _ => 0)) (el_is (el_lcR1 (n := (m : Int)) (fun _ => true) (fun _ => V.int 0) (ea_cons (ev_var rfl) ea_nil) (by omega) (fun _ => rfl) (fun _ _ _ _ => et_yes) (fun _ _ _ _ _ => ev_c)) (by rw [Int.toNat_natCast]; exact given_tab _ _)) fun p H1 hp e1 ga1 => ?_
    refine q_forR2 (lo := 1) (n := (m : Int) + 1) (ea_cons ev_c (ea_cons (ev_op (ev_var rfl) ev_c rv_I0) ea_nil)) (by omega) (fun x σ' H' => ∃ (y4 y5 y6 y7 y8 : Option V), σ' = [some (.ref a), some (.ref b), some (.int (m : Int)), some (.ref p), y4, y5, y6, y7, y8, none] ∧ Ex H H' ∧ H' p = some (.lst (vi (tabL m fun k => sm (fun x => sm (fun y => prC c d x y k) m) x)))) ?_ ?_ ?_
    · intro H2 e2
      exact ⟨_, _, _, _, _, rfl, e1.trans e2, e2 _ _ ga1⟩
    · rintro x σ' H' hx ⟨y4, y5, y6, y7, y8, rfl, e, g⟩
      have hx' : x < m := by omega
      refine s_forR2 (lo := 1) (n := (m : Int) + 1) (ea_cons ev_c (ea_cons (ev_op (ev_var rfl) ev_c rv_I0) ea_nil)) (by omega) (fun y σ' H' => ∃ (y5 y6 y7 y8 : Option V), σ' = [some (.ref a), some (.ref b), some (.int (m : Int)), some (.ref p), some (.int (1 + (x : Int))), y5, y6, y7, y8, none] ∧ Ex H H' ∧ H' p = some (.lst (vi (tabL m fun k => sm (fun x => sm (fun y => prC c d x y k) m) x + sm (fun y => prC c d x y k) y)))) ?_ ?_ ?_
      · intro H2 e2
        refine ⟨_, _, _, _, rfl, e.trans e2, ?_⟩
        rw [e2 _ _ g]
        congr 3
        exact tab_congr fun k _ => (Int.add_zero _).symm
      · rintro y σ' H2 hy ⟨y5, y6, y7, y8, rfl, e2, g2⟩
        have hy' : y < m := by omega
        have c1 : (1 : Int) + (x : Int) = ((x + 1 : Nat) : Int) := by omega
        have c2 : (1 : Int) + (y : Int) = ((y + 1 : Nat) : Int) := by omega
        have g0 : 0 < Nat.gcd (x + 1) (y + 1) := Nat.gcd_pos_of_pos_left _ (by omega)
        have gle : Nat.gcd (x + 1) (y + 1) ≤ x + 1 := Nat.le_of_dvd (by omega) (Nat.gcd_dvd_left _ _)
        have lp : 1 ≤ Nat.lcm (x + 1) (y + 1) := Nat.lcm_pos (by omega) (by omega)
        have dle : (x + 1) / Nat.gcd (x + 1) (y + 1) ≤ x + 1 := Nat.div_le_self _ _
        rw [c1, c2]
        refine q_asg (ev_call (ea_cons (ev_var rfl) (ea_cons (ev_var rfl) ea_nil)) (v_law_common (by omega) (by omega))) fun H3 e3 => ?_
        refine q_asg (v := .int ((Nat.lcm (x + 1) (y + 1) : Nat) - 1 : Int)) (ev_is (ev_op (ev_op (ev_op (ev_var rfl) (ev_var rfl) (rv_I (cdw _ (show (0 : Int) < ((Nat.gcd (x + 1) (y + 1) : Nat) : Int) by omega) (by omega)))) (ev_var rfl) (rv_I (wmS (by rw [← Int.natCast_ediv, Int.natAbs_natCast]; omega) (s500 (by omega))))) ev_c rv_I0) (by rw [← Int.natCast_ediv, ← Int.natCast_mul, lcm_place])) fun H4 e4 => ?_
        have e14 := (e2.trans e3).trans e4
        have g4 := e4 _ _ (e3 _ _ g2)
        have step : ∀ k, sm (fun y => prC c d x y k) (y + 1) = sm (fun y => prC c d x y k) y + prC c d x y k := fun k => rfl
        refine s_when (b := decide (Nat.lcm (x + 1) (y + 1) ≤ m)) (et_is (et_test (ev_op (ev_var rfl) (ev_var rfl) (rv_b rfl))) (decide_eq_decide.mpr ⟨fun z => by omega, fun z => by omega⟩)) (fun hb H5 e5 => ?_) (fun hb H5 e5 => ?_)
        · have hm := of_decide_eq_true hb
          obtain ⟨j, hj⟩ : ∃ j, Nat.lcm (x + 1) (y + 1) = j + 1 := ⟨Nat.lcm (x + 1) (y + 1) - 1, by omega⟩
          have ej : ((Nat.lcm (x + 1) (y + 1) : Nat) : Int) - 1 = (j : Int) := by omega
          rw [ej]
          refine q_asg (v := .int (prC c d x y j)) (ev_is (ev_op (ev_op (ev_var rfl) (ev_op (ev_var rfl) (ev_is (ev_op (ev_var rfl) ev_c rv_I0) (show V.int (((x + 1 : Nat) : Int) - 1) = .int (x : Int) by congr 1; omega)) (rv_ixL (ex_l (e14.trans e5) hA) (atI_nat (getD_at (by omega))))) (rv_I (wmS (by omega) (p500 (hc x))))) (ev_op (ev_var rfl) (ev_is (ev_op (ev_var rfl) ev_c rv_I0) (show V.int (((y + 1 : Nat) : Int) - 1) = .int (y : Int) by congr 1; omega)) (rv_ixL (ex_l (e14.trans e5) hB) (atI_nat (getD_at (by omega))))) (rv_I (wmB (Nat.lt_trans (wide_lt (a := 20) (b := 200) (show (((Nat.gcd (x + 1) (y + 1) : Nat) : Int)).natAbs < 2 ^ 20 by omega) (hc x)) (by decide)) (p500 (hd y))))) (by unfold prC; rw [if_pos hj])) fun H6 e6 => ?_
          have g6 := e6 _ _ (e5 _ _ g4)
          refine s_setL (j := j) g6 (ev_op (ev_op (ev_var rfl) (ev_var rfl) (rv_ixL (sq_of g6) (atI_nat (tab_at (show j < m by omega))))) (ev_var rfl) rv_I0) (ev_var rfl) (ev_var rfl) (by rw [List.length_map, tab_length]; omega) fun H7 e7 => ?_
          refine ⟨_, _, _, _, rfl, (((e14.trans e5).trans e6).trans e7).mut hp, ?_⟩
          rw [upd_same, vi_set, tab_set (show j < m by omega)]
          congr 3
          refine tab_congr fun k _ => ?_
          rw [step]
          by_cases ck : k = j
          · rw [if_pos ck, ck, Int.add_assoc]
          · rw [if_neg ck]
            have : prC c d x y k = 0 := by
              unfold prC
              rw [if_neg (by omega)]
            rw [this, Int.add_zero]
        · have hm := of_decide_eq_false hb
          refine ⟨_, _, _, _, rfl, e14.trans e5, ?_⟩
          rw [e5 _ _ g4]
          congr 3
          refine tab_congr fun k hk => ?_
          rw [step]
          have : prC c d x y k = 0 := by
            unfold prC
            rw [if_neg (by omega)]
          rw [this, Int.add_zero]
      · rintro σ' H2 ⟨y5, y6, y7, y8, rfl, e2, g2⟩
        rw [show ((m : Int) + 1 - 1).toNat = m by omega] at g2
        exact ⟨_, _, _, _, _, rfl, e2, g2⟩
    · rintro σ' H' ⟨y4, y5, y6, y7, y8, rfl, e, g⟩
      rw [show ((m : Int) + 1 - 1).toNat = m by omega] at g
      refine s_ret (ev_var rfl) fun H3 e3 => q p H3 hp (e.trans e3) ?_
      rw [e3 _ _ g]
      unfold pairC
      rw [h1, h2]
/-! ### _law_fallen -/
def sp_law_fallen (K : PySem.W.Frag) : Sp := fun vs H Q _ => ∃ (a : Addr) (c : List Int) (s m : Nat), vs = [.ref a, .int (s : Int), .int (m : Int)] ∧ SqL K H a (vi c) ∧ c.length ≤ 60 ∧ 1 ≤ s ∧ s ≤ 4000 ∧ m ≤ 60 ∧ RetL (vi (fallC c s m)) H Q
theorem l_law_fallen {K : PySem.W.Frag} {H : Hp} {a : Addr} {c : List Int} {s m : Nat} (ha : SqL K H a (vi c)) (h1 : c.length ≤ 60) (h2 : 1 ≤ s) (h3 : s ≤ 4000) (h4 : m ≤ 60) : SpL (sp_law_fallen K) [.ref a, .int (s : Int), .int (m : Int)] H (vi (fallC c s m)) := fun H1 e Q q E => ⟨a, c, s, m, rfl, ex_l e ha, h1, h2, h3, h4, q⟩
theorem ok_law_fallen (T : Txt K mg) : FnG P w K mg base CX0 2 T.a_law_fallen T.d_law_fallen ["one", "step", "many"] (sp_law_fallen K) := by
  refine okG T.F_law_fallen sc_law_fallen (fun vs H Q E h => ?_) (fun cdv A out s H vs Q E hr h => ?_)
  · obtain ⟨a, c, s, m, rfl, hA, h1, h2, h3, h4, q⟩ := h
    rfl
  · obtain ⟨a, c, s, m, rfl, hA, h1, h2, h3, h4, q⟩ := h
    refine ⟨_, (pss_cons (ps_setLc (i := 3) (own := [("n", 7)]) (g := gName 7) rfl sc_law_fallen.nd rfl rfl (sw_true rfl rfl rfl (by decide +kernel)) (pi_range1 (by rfl) T.z_range (pa_cons (pv 2) pa_nil)) (blkOk_by (own := [("n", 7)]) (N := ["one", "step", "many", "found", "length", "common", "place", "n"]) (sc := defScope s_law_fallen) (by decide +kernel)) (fun _ _ _ _ _ => (pg_name (i := 7) sc_law_fallen.nd rfl (Or.inl rfl))) (fun _ _ _ _ _ => pts_nil) (fun _ _ _ _ _ => pe_int))
    (pss_cons (ps_for PassesOwn.never rfl (pi_range2 (by rfl) T.z_range (pa_cons pe_int (pa_cons (pe_op op_add (pe_callB (call_lenK (K := K) rfl) (by rfl) T.z_len bt_len (pa_cons (pv 0) pa_nil)) pe_int) pa_nil))) (pg_name (i := 4) sc_law_fallen.nd rfl (.inl rfl))
      (pss_cons (ps_set (i := 5) sc_law_fallen.nd rfl (.inl rfl) (callG (ok_law_common T) (hr.mono (by decide)) (by rfl) T.g_law_common T.F_law_common.kp (b_law_common T) .nil pass0 (pa_cons (pv 4) (pa_cons (pv 1) pa_nil))))
      (pss_one (ps_if (pt_cmpR op_le (pe_op op_fdivW (pv 4) (pv 5)) (pv 2) (nomark _))
        (pss_cons (ps_set (i := 6) sc_law_fallen.nd rfl (.inl rfl) (pe_op op_sub (pe_op op_fdivW (pv 4) (pv 5)) pe_int))
        (pss_one (ps_asg (pe_op op_add (pe_ix (ix_listK (K := K) rfl) (pv 3) (pv 6) (fun _ _ => rfl)) (pe_op op_mul (pv 5) (pe_ix (ix_listK (K := K) rfl) (pv 0) (pe_op op_sub (pv 4) pe_int) (fun _ _ => rfl)))) (pg_sub (pv 3) (pv 6) set_list))))
        pss_nil))))
    (pss_one (ps_ret (pv 3))))), ?_⟩
    refine q_asgL (xs := vi (tabL m fun _ => 0)) (el_is (el_lcR1 (n := (m : Int)) (fun _ => true) (fun _ => V.int 0) (ea_cons (ev_var rfl) ea_nil) (by omega) (fun _ => rfl) (fun _ _ _ _ => et_yes) (fun _ _ _ _ _ => ev_c)) (by rw [Int.toNat_natCast]; exact given_tab _ _)) fun p H1 hp e1 ga1 => ?_
    refine q_forR2 (lo := 1) (n := (c.length : Int) + 1) (ea_cons ev_c (ea_cons (ev_op (ev_is (ev_len (ev_var rfl) (ex_l e1 hA)) (by rw [List.length_map])) ev_c rv_I0) ea_nil)) (by omega) (fun x σ' H' => ∃ (y4 y5 y6 : Option V), σ' = [some (.ref a), some (.int (s : Int)), some (.int (m : Int)), some (.ref p), y4, y5, y6, none] ∧ Ex H H' ∧ H' p = some (.lst (vi (tabL m fun k => sm (fun l => if (l + 1) / Nat.gcd (l + 1) s = k + 1 then (Nat.gcd (l + 1) s : Int) * c.getD l 0 else 0) x)))) ?_ ?_ ?_
    · intro H2 e2
      exact ⟨_, _, _, rfl, e1.trans e2, e2 _ _ ga1⟩
    · rintro x σ' H' hx ⟨y4, y5, y6, rfl, e, g⟩
      have hx' : x < c.length := by omega
      have c1 : (1 : Int) + (x : Int) = ((x + 1 : Nat) : Int) := by omega
      have g0 : 0 < Nat.gcd (x + 1) s := Nat.gcd_pos_of_pos_left _ (by omega)
      have gle : Nat.gcd (x + 1) s ≤ x + 1 := Nat.le_of_dvd (by omega) (Nat.gcd_dvd_left _ _)
      have lp : 1 ≤ (x + 1) / Nat.gcd (x + 1) s := Nat.div_pos gle g0
      rw [c1]
      have step : ∀ k, sm (fun l => if (l + 1) / Nat.gcd (l + 1) s = k + 1 then (Nat.gcd (l + 1) s : Int) * c.getD l 0 else 0) (x + 1) = sm (fun l => if (l + 1) / Nat.gcd (l + 1) s = k + 1 then (Nat.gcd (l + 1) s : Int) * c.getD l 0 else 0) x + (if (x + 1) / Nat.gcd (x + 1) s = k + 1 then (Nat.gcd (x + 1) s : Int) * c.getD x 0 else 0) := fun k => rfl
      refine q_asg (ev_call (ea_cons (ev_var rfl) (ea_cons (ev_var rfl) ea_nil)) (v_law_common (by omega) (by omega))) fun H3 e3 => ?_
      refine s_when (b := decide ((x + 1) / Nat.gcd (x + 1) s ≤ m)) (et_is (et_test (ev_op (ev_op (ev_var rfl) (ev_var rfl) (rv_I (cdw _ (show (0 : Int) < ((Nat.gcd (x + 1) s : Nat) : Int) by omega) (by omega)))) (ev_var rfl) (rv_b rfl))) (decide_eq_decide.mpr (by rw [← Int.natCast_ediv]; exact Int.ofNat_le))) (fun hb H5 e5 => ?_) (fun hb H5 e5 => ?_)
      · have hm := of_decide_eq_true hb
        obtain ⟨j, hj⟩ : ∃ j, (x + 1) / Nat.gcd (x + 1) s = j + 1 := ⟨(x + 1) / Nat.gcd (x + 1) s - 1, by omega⟩
        refine q_asg (v := .int (j : Int)) (ev_is (ev_op (ev_op (ev_var rfl) (ev_var rfl) (rv_I (cdw _ (show (0 : Int) < ((Nat.gcd (x + 1) s : Nat) : Int) by omega) (by omega)))) ev_c rv_I0) (by rw [← Int.natCast_ediv, hj]; congr 1; omega)) fun H6 e6 => ?_
        have e36 := ((e.trans e3).trans e5).trans e6
        have g6 := e6 _ _ (e5 _ _ (e3 _ _ g))
        refine s_setL (j := j) g6 (ev_op (ev_op (ev_var rfl) (ev_var rfl) (rv_ixL (sq_of g6) (atI_nat (tab_at (show j < m by omega))))) (ev_op (ev_var rfl) (ev_op (ev_var rfl) (ev_is (ev_op (ev_var rfl) ev_c rv_I0) (show V.int (((x + 1 : Nat) : Int) - 1) = .int (x : Int) by congr 1; omega)) (rv_ixL (ex_l e36 hA) (atI_nat (getD_at (by omega))))) (rv_I (.inl (by omega)))) rv_I0) (ev_var rfl) (ev_var rfl) (by rw [List.length_map, tab_length]; omega) fun H7 e7 => ?_
        refine ⟨_, _, _, rfl, (e36.trans e7).mut hp, ?_⟩
        rw [upd_same, vi_set, tab_set (show j < m by omega)]
        congr 3
        refine tab_congr fun k _ => ?_
        rw [step]
        by_cases ck : k = j
        · rw [if_pos ck, ck, if_pos hj]
        · rw [if_neg ck, if_neg (by omega), Int.add_zero]
      · have hm := of_decide_eq_false hb
        refine ⟨_, _, _, rfl, (e.trans e3).trans e5, ?_⟩
        rw [e5 _ _ (e3 _ _ g)]
        congr 3
        refine tab_congr fun k hk => ?_
        rw [step, if_neg (by omega), Int.add_zero]
    · rintro σ' H' ⟨y4, y5, y6, rfl, e, g⟩
      rw [show ((c.length : Int) + 1 - 1).toNat = c.length by omega] at g
      exact s_ret (ev_var rfl) fun H3 e3 => q p H3 hp (e.trans e3) (e3 _ _ g)
/-! ### _law_places -/
def Cts (c : List Int) : Prop := CtsN c
def sp_law_places (K : PySem.W.Frag) : Sp := fun vs H Q _ => ∃ (a b : Addr) (n : Nat) (c : List Int), vs = [.ref a, .ref b] ∧ Well H a n ∧ n + 300 ≤ 2 ^ 50 ∧ b ≠ a ∧ H b = some (.lst (vi c)) ∧ Cts c ∧ ∀ p ds H2, H p = none → But a H H2 → Well H2 a (n + 300) → H2 p = some (.tup (vi ds)) → Shf ds → lensL ds = toldL c → (ds.length : Int) = ths c c.length → Q (.ref p) H2
theorem ok_law_places (T : Txt K mg) : FnG P w K mg base CX0 2 T.a_law_places T.d_law_places ["flask", "counts"] (sp_law_places K) := by
  refine okG T.F_law_places sc_law_places (fun vs H Q E h => ?_) (fun cdv A out s H vs Q E hr h => ?_)
  · obtain ⟨a, b, n, c, rfl, hw, hn, nb, hB, hc, q⟩ := h
    rfl
  · obtain ⟨a, b, n, c, rfl, hw, hn, nb, hB, hc, q⟩ := h
    refine ⟨_, (pss_cons (ps_set (i := 2) sc_law_places.nd rfl (.inl rfl) (pe_callB (cr_sumK (K := K) rfl rfl) (by rfl) T.z_sum bt_sum (pa_cons (pe_lc (own := [("n", 8), ("count", 9)]) (g := g2 K 8 9) rfl sc_law_places.nd (pi_enum (by rfl) T.z_enumerate (pa_cons (pv 1) pa_nil)) (blkOk_by (own := [("n", 8), ("count", 9)]) (N := ["flask", "counts", "size", "left", "names", "found", "turn", "start", "n", "count", "ring", "k", "place"]) (sc := defScope s_law_places) (by decide +kernel)) (fun _ _ _ _ _ => (pg_tup rfl (pgs_cons (pg_name (i := 8) sc_law_places.nd rfl (Or.inl rfl)) (pgs_cons (pg_name (i := 9) sc_law_places.nd rfl (Or.inl rfl)) pgs_nil)))) (fun _ _ _ _ _ => pts_nil) (fun _ _ _ _ _ => (pe_op op_mul (pe_op op_add (pv 8) pe_int) (pv 9)))) pa_nil)))
    (pss_cons (ps_asg (pe_tup (pa_cons (pe_listRg rfl (by rfl) T.z_list (prg_1 (by rfl) T.z_range (pv 2))) (pa_cons (pe_lst pa_nil) (pa_cons pe_dnewK pa_nil)))) (pg_tup rfl (pgs_cons (pg_name (i := 3) sc_law_places.nd rfl (.inl rfl)) (pgs_cons (pg_name (i := 4) sc_law_places.nd rfl (.inl rfl)) (pgs_cons (pg_name (i := 5) sc_law_places.nd rfl (.inr rfl)) pgs_nil)))))
    (pss_cons (ps_for PassesOwn.never rfl (pi_range1 (by rfl) T.z_range (pa_cons (pv 2) pa_nil)) (pg_name (i := 6) sc_law_places.nd rfl (.inl rfl))
      (pss_one (ps_expr (pe_bm PySem.F.plainAttrs_list PySem.F.slot_list_append PySem.F.type_list_append mt_append (pv 4) (pa_cons (pe_bm PySem.F.plainAttrs_list PySem.F.slot_list_pop PySem.F.type_list_pop mt_popAt (pv 3) (pa_cons (callG (ok_law_sip T) (hr.mono (by decide)) (by rfl) T.g_law_sip T.F_law_sip.kp (b_law_sip T) .nil pass0 (pa_cons (pv 0) (pa_cons (pe_callB (call_lenK (K := K) rfl) (by rfl) T.z_len bt_len (pa_cons (pv 3) pa_nil)) pa_nil))) pa_nil)) pa_nil)))))
    (pss_cons (ps_set (i := 7) sc_law_places.nd rfl (.inl rfl) pe_int)
    (pss_cons (ps_for PassesOwn.never rfl (pi_enum (by rfl) T.z_enumerate (pa_cons (pv 1) pa_nil)) (pg_tup rfl (pgs_cons (pg_name (i := 8) sc_law_places.nd rfl (.inl rfl)) (pgs_cons (pg_name (i := 9) sc_law_places.nd rfl (.inl rfl)) pgs_nil)))
      (pss_one (ps_for PassesOwn.never rfl (pi_range1 (by rfl) T.z_range (pa_cons (pv 9) pa_nil)) (pg_name (i := 6) sc_law_places.nd rfl (.inl rfl))
        (pss_cons (ps_set (i := 10) sc_law_places.nd rfl (.inl rfl) (pe_slice (sl_listK (K := K) rfl) (pv 4) (po_some (pv 7)) (po_some (pe_op op_add (pe_op op_add (pv 7) (pv 8)) pe_int))))
        (pss_cons (ps_for PassesOwn.never rfl (pi_range1 (by rfl) T.z_range (pa_cons (pe_op op_add (pv 8) pe_int) pa_nil)) (pg_name (i := 11) sc_law_places.nd rfl (.inl rfl))
          (pss_one (ps_dput (hu_of hr.rm) (pv 5) (pe_ix (ix_listK (K := K) rfl) (pv 10) (pv 11) (fun _ _ => rfl)) (pe_ix (ix_listK (K := K) rfl) (pv 10) (pe_op op_mod (pe_callTy call_int1 (by rfl) T.z_int bt_int (pa_cons (pe_op op_add (pv 11) pe_int) pa_nil)) (pe_op op_add (pv 8) pe_int)) (fun _ _ => rfl)) rfl)))
        (pss_one (ps_set (i := 7) sc_law_places.nd rfl (.inl rfl) (pe_op op_add (pe_op op_add (pv 7) (pv 8)) pe_int))))))))
    (pss_one (ps_ret (pe_callTy (call_tupleK (K := K) rfl) (by rfl) T.z_tuple bt_tuple (pa_cons (pe_lc (own := [("place", 12)]) (g := gName 12) rfl sc_law_places.nd (pi_range1 (by rfl) T.z_range (pa_cons (pv 2) pa_nil)) (blkOk_by (own := [("place", 12)]) (N := ["flask", "counts", "size", "left", "names", "found", "turn", "start", "n", "count", "ring", "k", "place"]) (sc := defScope s_law_places) (by decide +kernel)) (fun _ _ _ _ _ => (pg_name (i := 12) sc_law_places.nd rfl (Or.inl rfl))) (fun _ _ _ _ _ => pts_nil) (fun _ _ _ _ _ => (pe_dget (hu_of hr.rm) (pv 5) (pv 12) (fun _ _ => rfl)))) pa_nil))))))))), ?_⟩
    obtain ⟨cl, cb, ct⟩ := hc
    have cn : ∀ x ∈ c, 0 ≤ x := fun x hx => (cb x hx).1
    have cg : ∀ k, 0 ≤ c.getD k 0 ∧ c.getD k 0 ≤ 2 := fun k => by
      rw [List.getD_eq_getElem?_getD]
      cases g : c[k]? with
      | none => exact ⟨Int.le_refl _, by decide⟩
      | some z => exact cb z (List.mem_of_getElem? g)
    have tm : ths c c.length ≤ 20 := by
      rw [cl]
      show 0 + (1 + ((0 : Nat) : Int)) * c.getD 0 0 + (1 + ((1 : Nat) : Int)) * c.getD 1 0 + (1 + ((2 : Nat) : Int)) * c.getD 2 0 + (1 + ((3 : Nat) : Int)) * c.getD 3 0 ≤ 20
      have a0 := cg 0
      have a1 := cg 1
      have a2 := cg 2
      have a3 := cg 3
      omega
    obtain ⟨sz, hz⟩ : ∃ sz : Nat, ths c c.length = sz := ⟨(ths c c.length).toNat, by omega⟩
    have dl : (dueL c c.length).length = sz := by
      have := dueL_length cn c.length
      omega
    have hE := due_shf cn ct (by omega)
    refine q_asg (v := .int (sz : Int)) (ev_is (ev_sumN (ns := (List.range c.length).map fun i : Nat => (1 + (i : Int)) * c.getD i 0) (el_is (el_lcEn (fun _ => true) (fun i => V.int ((1 + (i : Int)) * c.getD i 0)) (ev_var rfl) (sq_of hB) (by rw [List.length_map]; omega) (fun _ _ => rfl) (fun _ _ _ _ _ => et_yes) ?_) (by rw [List.length_map]; exact given_ints _ _))) (by rw [ths_sum, hz])) fun H0 e0 => ?_
    · intro i x H1 e1 hx _
      obtain ⟨z, rfl, _, ez⟩ := vi_inv hx
      have hi : i < c.length := by
        have := (List.getElem?_eq_some_iff.mp hx).1
        rwa [List.length_map] at this
      rw [ez]
      exact ev_is (ev_op (ev_op (ev_var rfl) ev_c rv_I0) (ev_var rfl) (rv_I (cml (by omega)))) (by rw [Int.add_comm (i : Int) 1])
    refine q_par3LLD (xs := vi (iota sz)) (ys := []) (el_is (el_rg1 (ev_var rfl) (by omega) (by omega)) (rgV_iota sz)) (el_lst ea_nil (Nat.zero_le _)) fun p1 p2 p3 H1 f1 f2 f3 ne e1 h1 h2 h3 => ?_
    have n1 : p1 ≠ a := (hw.ex e0).ne f1
    have n2 : p2 ≠ a := (hw.ex e0).ne f2
    have n3 : p3 ≠ a := (hw.ex e0).ne f3
    have f1' := fresh_back e0 f1
    have f2' := fresh_back e0 f2
    have f3' := fresh_back e0 f3
    have n13 : p1 ≠ p3 := fun z => by
      rw [z, h3] at h1
      cases h1
    have n23 : p2 ≠ p3 := fun z => by
      rw [z, h3] at h2
      cases h2
    have hB1 := e1 _ _ (e0 _ _ hB)
    have b1 : b ≠ p1 := fun z => by
      rw [z, f1'] at hB
      cases hB
    have b2' : b ≠ p2 := fun z => by
      rw [z, f2'] at hB
      cases hB
    have b3' : b ≠ p3 := fun z => by
      rw [z, f3'] at hB
      cases hB
    refine q_forR1 (n := (sz : Int)) (ea_cons (ev_var rfl) ea_nil) (by omega) (fun i σ' H' => ∃ ps fs y6, σ' = [some (.ref a), some (.ref b), some (.int (sz : Int)), some (.ref p1), some (.ref p2), some (.ref p3), y6, none, none, none, none, none, none] ∧ But a H H' ∧ Well H' a (n + i) ∧ H' b = some (.lst (vi c)) ∧ H' p3 = some (.dK []) ∧ H' p1 = some (.lst (vi ps)) ∧ H' p2 = some (.lst (vi fs)) ∧ ps.length + i = sz ∧ fs.length = i ∧ (fs ++ ps).Perm (iota sz)) ?_ ?_ ?_
    · intro H2 e2
      exact ⟨iota sz, [], _, rfl, But.ex ((e0.trans e1).trans e2), hw.ex ((e0.trans e1).trans e2), e2 _ _ hB1, e2 _ _ h3, e2 _ _ h1, e2 _ _ h2, by rw [iota_length]; rfl, rfl, List.Perm.refl _⟩
    · rintro i σ' H' hi ⟨ps, fs, y6, rfl, bt, w, gb, gd, ga1, ga2, l1, l2, pm⟩
      refine ⟨.ref p2, rfl, .inl ⟨rfl, _, sq_of ga2⟩, .ref p1, rfl, .inl ⟨rfl, _, sq_of ga1⟩, ?_⟩
      have hl : ((vi ps).length : Int) = (ps.length : Int) := by rw [List.length_map]
      have g1' : SqL K (hid a H') p1 (vi ps) := sq_of (by rw [hid_ne n1]; exact ga1)
      refine (ew_drawC (m := (ps.length : Int)) rfl (ev_is (ev_len (ev_var rfl) g1') (by rw [hl])) (by omega) (lt8000 (by omega))) _ H' (But.refl a H') w (by omega) _ ?_
      rintro v H2 b2 w2 ⟨r, rfl, r0, r1⟩
      obtain ⟨k, rfl⟩ : ∃ k : Nat, r = k := ⟨r.toNat, by omega⟩
      have hk : k < ps.length := by omega
      have c1 := b2 _ _ n1 ga1
      have c2 := b2 _ _ n2 ga2
      refine ⟨p1, vi ps, k, k, .int ps[k], rfl, rfl, c1, by omega, by omega, (ixN_seq (ixN_nat (by rw [List.length_map]; exact hk))).1, vi_at hk, ?_⟩
      refine ⟨p2, vi fs, _, rfl, rfl, by rw [upd_ne (Ne.symm ne)]; exact c2, sz_lt (by rw [List.length_map]; omega), ?_⟩
      refine ⟨ps.eraseIdx k, fs ++ [ps[k]], _, rfl, ((bt.trans b2).own f1').own f2', ?_, ?_, ?_, ?_, ?_, ?_, ?_, ?_⟩
      · obtain ⟨x, y, c', q1, q2⟩ := w2
        exact ⟨x, y, c', by rw [upd_ne (Ne.symm n2), upd_ne (Ne.symm n1)]; exact q1, q2⟩
      · rw [upd_ne b2', upd_ne b1]
        exact b2 _ _ nb gb
      · rw [upd_ne (Ne.symm n23), upd_ne (Ne.symm n13)]
        exact b2 _ _ n3 gd
      · rw [upd_ne ne, upd_same, vi_erase]
      · rw [upd_same]
        show some (HO.lst (vi fs ++ vi [ps[k]])) = _
        rw [vi_app]
      · rw [List.length_eraseIdx_of_lt hk]
        omega
      · rw [List.length_append, l2]
        rfl
      · refine List.Perm.trans ?_ pm
        rw [List.append_assoc]
        exact List.Perm.append_left fs (erase_perm hk)
    rintro σ' H2 ⟨ps, fs, y6, rfl, bt, w, gb, gd, ga1, ga2, l1, l2, pm⟩
    have e0' : ps = [] := List.length_eq_zero_iff.mp (by omega)
    subst e0'
    rw [List.append_nil] at pm
    have hn' := shf_perm pm (by omega) (by omega)
    have fl : fs.length = sz := by omega
    refine q_asg (v := .int ((dueL c 0).length : Int)) ev_c fun H3 e3 => ?_
    refine q_forEn (ev_var rfl) (sq_of (e3 _ _ gb)) (fun i σ' H' => ∃ (kvs : List (Key × V)) (y6 y8 y9 y10 y11 : Option V), σ' = [some (.ref a), some (.ref b), some (.int (sz : Int)), some (.ref p1), some (.ref p2), some (.ref p3), y6, some (.int ((dueL c i).length : Int)), y8, y9, y10, y11, none] ∧ But a H H' ∧ Well H' a (n + sz) ∧ H' b = some (.lst (vi c)) ∧ H' p2 = some (.lst (vi fs)) ∧ H' p3 = some (.dK kvs) ∧ DI kvs fs (dueL c i) (dueL c i).length) ?_ ?_ ?_ ?_
    · intro H4 e4
      exact ⟨[], _, _, _, _, _, rfl, bt.trans (But.ex (e3.trans e4)), (w.ex (e3.trans e4)).mono (by omega), e4 _ _ (e3 _ _ gb), e4 _ _ (e3 _ _ ga2), e4 _ _ (e3 _ _ gd), Nat.zero_le _, fun p hp => absurd hp (Nat.not_lt_zero _)⟩
    · rintro i σ' H' _ ⟨kvs, y6, y8, y9, y10, y11, rfl, _, _, gb, _⟩
      exact sq_of gb
    · rintro i x σ' H' hx ⟨kvs, y6, y8, y9, y10, y11, rfl, bt, w, gb, gn, gk, di⟩ H4 e4
      obtain ⟨z, rfl, hzz, ez⟩ := vi_inv hx
      have hi : i < c.length := by
        have := (List.getElem?_eq_some_iff.mp hx).1
        rwa [List.length_map] at this
      have cz := cg i
      rw [ez] at cz
      have len_t : ∀ t : Nat, (t : Int) < z → (addR (i + 1) (dueL c i) t).length + (i + 1) ≤ sz := fun t ht => by
        rw [addR_length (by omega)]
        have d1 := dueL_length cn i
        have d2 : ths c (i + 1) = ths c i + (1 + (i : Int)) * c.getD i 0 := rfl
        have d3 := ths_mono cn (show i + 1 ≤ c.length by omega)
        rw [ez] at d2
        have d4 : (1 + (i : Int)) * ((t : Int) + 1) ≤ (1 + (i : Int)) * z := Int.mul_le_mul_of_nonneg_left (by omega) (by omega)
        have d5 : (((i + 1) * t : Nat) : Int) + (1 + (i : Int)) = (1 + (i : Int)) * ((t : Int) + 1) := by
          rw [Int.mul_add, Int.natCast_mul, Int.mul_one]
          rw [show ((i + 1 : Nat) : Int) = 1 + (i : Int) by omega]
        omega
      refine s_forR1 (n := z) (ea_cons (ev_var rfl) ea_nil) (by omega) (fun t σ' H' => ∃ (kvs : List (Key × V)) (y6 y10 y11 : Option V), σ' = [some (.ref a), some (.ref b), some (.int (sz : Int)), some (.ref p1), some (.ref p2), some (.ref p3), y6, some (.int ((addR (i + 1) (dueL c i) t).length : Int)), some (.int (i : Int)), some (.int z), y10, y11, none] ∧ But a H H' ∧ Well H' a (n + sz) ∧ H' b = some (.lst (vi c)) ∧ H' p2 = some (.lst (vi fs)) ∧ H' p3 = some (.dK kvs) ∧ DI kvs fs (addR (i + 1) (dueL c i) t) (addR (i + 1) (dueL c i) t).length) ?_ ?_ ?_
      · intro H5 e5
        exact ⟨kvs, _, _, _, rfl, bt.trans (But.ex (e4.trans e5)), w.ex (e4.trans e5), e5 _ _ (e4 _ _ gb), e5 _ _ (e4 _ _ gn), e5 _ _ (e4 _ _ gk), di⟩
      · rintro t σ' H5 ht ⟨kvs, y6, y10, y11, rfl, bt, w, gb, gn, gk, di⟩
        have lt := len_t t ht
        generalize hE' : addR (i + 1) (dueL c i) t = E at lt di
        have eE : addR (i + 1) (dueL c i) (t + 1) = E ++ blk E.length (i + 1) := by rw [← hE']; rfl
        refine q_asgL (xs := ((vi fs).drop E.length).take (i + 1)) (el_is (el_sl (ev_var rfl) (eo_some (ev_var rfl)) (eo_some (ev_is (ev_op (ev_op (ev_var rfl) (ev_var rfl) rv_I0) ev_c rv_I0) (show _ = V.int ((E.length : Int) + ((i + 1 : Nat) : Int)) by congr 1 <;> omega))) (sq_of gn)) (cut_mid (by rw [List.length_map]; omega))) fun pr H6 fr e6 gr => ?_
        have grx : ∀ j, j < i + 1 → (((vi fs).drop E.length).take (i + 1))[j]? = some (.int (fs.getD (E.length + j) 0)) := fun j hj => by
          rw [List.getElem?_take_of_lt hj, List.getElem?_drop, getD_at (by omega)]
        have npr : pr ≠ a := w.ne fr
        have pr3 : pr ≠ p3 := fun z => by
          rw [z, gk] at fr
          cases fr
        refine q_forR1 (n := (((i + 1 : Nat) : Int))) (ea_cons (ev_is (ev_op (ev_var rfl) ev_c rv_I0) (by rfl)) ea_nil) (by omega) (fun j σ' H' => ∃ (kvs : List (Key × V)) (y11 : Option V), σ' = [some (.ref a), some (.ref b), some (.int (sz : Int)), some (.ref p1), some (.ref p2), some (.ref p3), some (.int (t : Int)), some (.int (E.length : Int)), some (.int (i : Int)), some (.int z), some (.ref pr), y11, none] ∧ But a H H' ∧ Well H' a (n + sz) ∧ H' b = some (.lst (vi c)) ∧ H' p2 = some (.lst (vi fs)) ∧ H' pr = some (.lst (((vi fs).drop E.length).take (i + 1))) ∧ H' p3 = some (.dK kvs) ∧ DI kvs fs (E ++ blk E.length (i + 1)) (E.length + j)) ?_ ?_ ?_
        · intro H7 e7
          exact ⟨kvs, _, rfl, bt.trans (But.ex (e6.trans e7)), w.ex (e6.trans e7), e7 _ _ (e6 _ _ gb), e7 _ _ (e6 _ _ gn), e7 _ _ gr, e7 _ _ (e6 _ _ gk), di.ext fun p hp => acc_nx _ _ hp⟩
        · rintro j σ' H7 hj ⟨kvs, y11, rfl, bt, w, gb, gn, gr, gk, di⟩
          have hj' : j < i + 1 := by omega
          have kl := di.1
          have md : (j + 1) % (i + 1) < i + 1 := Nat.mod_lt _ (by omega)
          refine s_dput (k := .inl (fs.getD (E.length + j) 0)) (v := .int (fs.getD (nx (E ++ blk E.length (i + 1)) (E.length + j)) 0)) gk (ev_is (ev_op (ev_var rfl) (ev_is (ev_op (ev_int1 (ev_op (ev_var rfl) ev_c rv_I0)) (ev_op (ev_var rfl) ev_c rv_I0) (rv_I (show (0 : Int) < (i : Int) + 1 by omega))) (show _ = V.int (((j + 1) % (i + 1) : Nat) : Int) by rw [Int.natCast_emod]; rfl)) (rv_ixL (sq_of gr) (atI_nat (grx _ md)))) (by rw [blk_nx E hj'])) (ev_var rfl) (ev_op (ev_var rfl) (ev_var rfl) (rv_ixL (sq_of gr) (atI_nat (grx j hj')))) (by omega) fun H8 e8 => ?_
          refine ⟨_, _, rfl, (bt.trans (But.ex e8)).own f3', ?_, ?_, ?_, ?_, upd_same, di.put hn' (by omega)⟩
          · obtain ⟨x, y, c', q1, q2⟩ := w.ex e8
            exact ⟨x, y, c', by rw [upd_ne (Ne.symm n3)]; exact q1, q2⟩
          · rw [upd_ne b3']
            exact e8 _ _ gb
          · rw [upd_ne n23]
            exact e8 _ _ gn
          · rw [upd_ne pr3]
            exact e8 _ _ gr
        · rintro σ' H7 ⟨kvs, y11, rfl, bt, w, gb, gn, gr, gk, di⟩
          rw [Int.toNat_natCast] at di
          refine s_asg (v := .int ((addR (i + 1) (dueL c i) (t + 1)).length : Int)) (ev_is (ev_op (ev_op (ev_var rfl) (ev_var rfl) rv_I0) ev_c rv_I0) (by rw [eE, List.length_append, blk_length (by omega)]; congr 1)) fun H8 e8 => ?_
          refine ⟨kvs, _, _, _, rfl, bt.trans (But.ex e8), w.ex e8, e8 _ _ gb, e8 _ _ gn, e8 _ _ gk, ?_⟩
          rw [eE]
          have : (E ++ blk E.length (i + 1)).length = E.length + (i + 1) := by rw [List.length_append, blk_length (by omega)]
          rw [this]
          exact di
      · rintro σ' H5 ⟨kvs, y6, y10, y11, rfl, bt, w, gb, gn, gk, di⟩
        have ed : addR (i + 1) (dueL c i) z.toNat = dueL c (i + 1) := by
          show _ = addR (i + 1) (dueL c i) (c.getD i 0).toNat
          rw [ez]
        rw [ed] at di ⊢
        exact ⟨kvs, _, _, _, _, _, rfl, bt, w, gb, gn, gk, di⟩
    · rintro σ' H' ⟨kvs, y6, y8, y9, y10, y11, rfl, bt, w, gb, gn, gk, di⟩
      rw [List.length_map] at di
      obtain ⟨sF, lF, llF, vF⟩ := lay_ok hn' hE (by omega) di
      refine s_retU (xs := vi (layL fs (dueL c c.length) kvs)) (eu_tupOfN ?_) fun r H4 hr e4 g4 => ?_
      refine el_is (el_lcR1 (n := (sz : Int)) (fun _ => true) (fun p => V.int ((layL fs (dueL c c.length) kvs).getD p 0)) (ea_cons (ev_var rfl) ea_nil) (by omega) (fun _ => rfl) (fun _ _ _ _ => et_yes) fun p H4 e4 hp _ => ?_) ?_
      · obtain ⟨v, hv, ev⟩ := vF p (by omega)
        rw [ev]
        exact ev_dget (k := .inl (p : Int)) (ev_var rfl) (e4 _ _ gk) (ev_var rfl) hv
      · rw [Int.toNat_natCast]
        refine (given_tab _ _).trans (congrArg vi ?_)
        rw [← dl, ← llF]
        exact tab_self _
      · exact q r _ H4 (but_free bt w hr) (bt.trans (But.ex e4)) ((w.ex e4).mono (by omega)) g4 sF (lF.trans (lens_due cn ct (by omega))) (by rw [llF, dl, hz])
/-! ### check_many -/
def sp_check_many (K : PySem.W.Frag) : Sp := fun vs H Q _ => ∃ (m : Int), vs = [.int m] ∧ 1 ≤ m ∧ m ≤ 300 ∧ RetV .non H Q
theorem v_check_many {K : PySem.W.Frag} {H : Hp} {m : Int} (h1 : 1 ≤ m) (h2 : m ≤ 300) : SpV (sp_check_many K) [.int m] H .non := fun H1 e Q q E => ⟨m, rfl, h1, h2, q⟩
theorem ok_check_many (T : Txt K mg) : FnG P w K mg base CX0 3 T.a_check_many T.d_check_many ["many"] (sp_check_many K) := by
  refine okG T.F_check_many sc_check_many (fun vs H Q E h => ?_) (fun cdv A out s H vs Q E hr h => ?_)
  · obtain ⟨m, rfl, m0, m1, q⟩ := h
    rfl
  · obtain ⟨m, rfl, m0, m1, q⟩ := h
    refine ⟨_, (pss_one (ps_if (pt_not (pt_val (callG (ok_is_from_to T) (hr.mono (by decide)) (by rfl) T.g_is_from_to T.F_is_from_to.kp (b_is_from_to T) .nil pass0 (pa_cons (pv 0) (pa_cons pe_int (pa_cons (pe_glob (v := .int 300) rfl T.c_MOST_NUMBERS ⟨_, rfl⟩) pa_nil))))))
      (pss_one ps_never)
      pss_nil)), ?_⟩
    refine s_when (b := false) (et_not (a := true) (et_test (ev_is (ev_call (ea_cons (ev_var rfl) (ea_cons ev_c (ea_cons ev_c ea_nil))) v_is_from_to) (by rw [decide_eq_true m0, decide_eq_true m1]; rfl)))) (fun h => nomatch h) fun _ H1 e1 => q H1 e1
/-! ### new_numbers -/
def sp_new_numbers (K : PySem.W.Frag) : Sp := fun vs H Q _ => ∃ (a : Addr) (r : List Int), vs = [.ref a] ∧ SqL K H a (vi r) ∧ 0 < r.length ∧ r.length ≤ 4000 ∧ RetL (vi (newL r)) H Q
theorem l_new_numbers {K : PySem.W.Frag} {H : Hp} {a : Addr} {r : List Int} (h : SqL K H a (vi r)) (h0 : 0 < r.length) (h1 : r.length ≤ 4000) : SpL (sp_new_numbers K) [.ref a] H (vi (newL r)) := fun H1 e Q q E => ⟨a, r, rfl, ex_l e h, h0, h1, q⟩
theorem ok_new_numbers (T : Txt K mg) : FnG P w K mg base CX0 3 T.a_new_numbers T.d_new_numbers ["row"] (sp_new_numbers K) := by
  refine okG T.F_new_numbers sc_new_numbers (fun vs H Q E h => ?_) (fun cdv A out s H vs Q E hr h => ?_)
  · obtain ⟨a, r, rfl, hS, h0, h1, q⟩ := h
    rfl
  · obtain ⟨a, r, rfl, hS, h0, h1, q⟩ := h
    refine ⟨_, (pss_cons (ps_expr (callG (ok_check_row T) (hr.mono (by decide)) (by rfl) T.g_check_row T.F_check_row.kp (b_check_row T) .nil pass0 (pa_cons (pv 0) pa_nil)))
    (pss_cons (ps_set (i := 1) sc_new_numbers.nd rfl (.inl rfl) (pe_callB (call_lenK (K := K) rfl) (by rfl) T.z_len bt_len (pa_cons (pv 0) pa_nil)))
    (pss_cons (ps_set (i := 2) sc_new_numbers.nd rfl (.inl rfl) (pe_callTy (call_listK (K := K) rfl) (by rfl) T.z_list bt_list (pa_cons (pv 0) pa_nil)))
    (pss_cons (ps_for PassesOwn.never rfl (pi_range2 (by rfl) T.z_range (pa_cons pe_int (pa_cons (pe_op op_add (pv 1) pe_int) pa_nil))) (pg_name (i := 3) sc_new_numbers.nd rfl (.inl rfl))
      (pss_one (ps_for PassesOwn.never rfl (pi_range3 (by rfl) T.z_range (pa_cons (pe_op op_mul pe_int (pv 3)) (pa_cons (pe_op op_add (pv 1) pe_int) (pa_cons (pv 3) pa_nil)))) (pg_name (i := 4) sc_new_numbers.nd rfl (.inl rfl))
        (pss_one (ps_augS (pv 2) (pe_op op_sub (pv 4) pe_int) pget_list (pe_ix (ix_listK (K := K) rfl) (pv 2) (pe_op op_sub (pv 3) pe_int) (fun _ _ => rfl)) ip_sub set_list)))))
    (pss_one (ps_ret (pv 2))))))), ?_⟩
    refine q_drop (ev_call (ea_cons (ev_var rfl) ea_nil) (v_check_row hS h0 h1)) fun H1 e1 => ?_
    refine q_asg (v := .int (r.length : Int)) (ev_is (ev_len (ev_var rfl) (ex_l e1 hS)) (by rw [List.length_map])) fun H2 e2 => ?_
    refine q_asgL (el_list (ev_var rfl) (ex_l (e1.trans e2) hS)) fun pn H3 f3 e3 h3 => ?_
    have fp : H pn = none := fresh_back (e1.trans e2) f3
    refine q_forR2 (lo := 1) (n := (r.length : Int) + 1) (ea_cons ev_c (ea_cons (ev_op (ev_var rfl) ev_c rv_I0) ea_nil)) (by omega)
      (fun k σ' H' => ∃ (y3 y4 : Option V), σ' = [some (.ref a), some (.int (r.length : Int)), some (.ref pn), y3, y4] ∧ Ex H H' ∧ H' pn = some (.lst (vi (tabL r.length (sub r k))))) ?_ ?_ ?_
    · intro H4 e4
      refine ⟨_, _, rfl, ((e1.trans e2).trans e3).trans e4, ?_⟩
      have e5 : tabL r.length (sub r 0) = r := tab_self r
      rw [e5]
      exact e4 _ _ h3
    · rintro k σ' H' hk ⟨y3, y4, rfl, e, g⟩
      have hk' : k < r.length := by omega
      have e1k : (1 : Int) + (k : Int) = ((k + 1 : Nat) : Int) := by omega
      rw [e1k]
      refine s_forR3G (lo := 2 * ((k + 1 : Nat) : Int)) (j := (r.length : Int) + 1) (c := ((k + 1 : Nat) : Int)) (ea_cons (ev_op ev_c (ev_var rfl) (rv_I (cml (by decide)))) (ea_cons (ev_op (ev_var rfl) ev_c rv_I0) (ea_cons (ev_var rfl) ea_nil))) (by omega) (by omega) (by omega) (by omega) (by omega) (by omega)
        (fun t σ' H' => ∃ (y4 : Option V), σ' = [some (.ref a), some (.int (r.length : Int)), some (.ref pn), some (.int ((k + 1 : Nat) : Int)), y4] ∧ Ex H H' ∧ H' pn = some (.lst (vi (tabL r.length fun i => sub r k i - (if k < i ∧ (i + 1) % (k + 1) = 0 ∧ (i + 1) / (k + 1) ≤ t + 1 then sub r k k else 0))))) ?_ ?_ ?_
      · intro H4 e4
        refine ⟨_, rfl, e.trans e4, ?_⟩
        rw [e4 _ _ g]
        congr 3
        refine tab_congr fun i hi => ?_
        rw [if_neg]
        · omega
        · rintro ⟨h1, h2, h3⟩
          have e := Nat.div_add_mod (i + 1) (k + 1)
          rw [h2] at e
          have : (k + 1) * ((i + 1) / (k + 1)) ≤ (k + 1) * 1 := Nat.mul_le_mul_left _ (by omega)
          omega
      · rintro t σ'' H'' ht ⟨y4, rfl, e', g'⟩
        have ej : 2 * ((k + 1 : Nat) : Int) + (t : Int) * ((k + 1 : Nat) : Int) = (((k + 1) * (t + 1 + 1) : Nat) : Int) := by
          rw [Int.natCast_mul, ← Int.add_mul, Int.mul_comm]
          congr 1
          omega
        rw [ej] at ht ⊢
        have hpos : 0 < (k + 1) * (t + 1 + 1) := Nat.mul_pos (Nat.succ_pos k) (Nat.succ_pos _)
        have hge : (k + 1) * 2 ≤ (k + 1) * (t + 1 + 1) := Nat.mul_le_mul_left _ (by omega)
        obtain ⟨m1, m2⟩ := mul_mod (n := k + 1) (t := t + 1) (Nat.succ_pos k)
        generalize hj : (k + 1) * (t + 1 + 1) = M at *
        refine s_augL (j := M - 1) (f := fun i j => i - j) (a := sub r k (M - 1)) (b := sub r k k) (ev_var rfl) (ev_is (ev_op (ev_var rfl) ev_c rv_I0) (by congr 1; omega)) g' (by
          rw [tab_at (by omega), if_neg]
          · rw [Int.sub_zero]
          · rintro ⟨_, _, z⟩
            omega) (ev_op (ev_var rfl) (ev_is (ev_op (ev_var rfl) ev_c rv_I0) (by show V.int (((k + 1 : Nat) : Int) - 1) = .int ((k : Nat) : Int); congr 1; omega)) (rv_ixL (sq_of g') (atI_nat (by
            rw [tab_at hk', if_neg (fun z => Nat.lt_irrefl _ z.1), Int.sub_zero])))) fun H4 e4 => ?_
        refine ⟨_, rfl, (e'.trans e4).mut fp, ?_⟩
        rw [upd_same, vi_set, tab_set (by omega)]
        congr 3
        refine tab_congr fun i hi => ?_
        by_cases c : i = M - 1
        · rw [if_pos c, c, if_pos ⟨by omega, m1, by omega⟩]
        · rw [if_neg c]
          by_cases d : k < i ∧ (i + 1) % (k + 1) = 0
          · have hx := mul_ix (n := k + 1) (t := t + 1) (Nat.succ_pos k) d.2
            rw [hj] at hx
            by_cases d2 : (i + 1) / (k + 1) ≤ t + 1
            · rw [if_pos ⟨d.1, d.2, d2⟩, if_pos ⟨d.1, d.2, by omega⟩]
            · rw [if_neg fun z => d2 z.2.2, if_neg fun z => (hx.mp z.2.2).elim d2 fun z => by omega]
          · rw [if_neg fun z => d ⟨z.1, z.2.1⟩, if_neg fun z => d ⟨z.1, z.2.1⟩]
      · rintro t σ'' H'' ht ⟨y4, rfl, e', g'⟩
        refine ⟨_, _, rfl, e', ?_⟩
        rw [g']
        congr 3
        refine tab_congr fun i hi => ?_
        show _ = sub r k i - (if k < i ∧ (i + 1) % (k + 1) = 0 then sub r k k else 0)
        by_cases d : k < i ∧ (i + 1) % (k + 1) = 0
        · have ej : 2 * ((k + 1 : Nat) : Int) + (t : Int) * ((k + 1 : Nat) : Int) = (((t + 1 + 1) * (k + 1) : Nat) : Int) := by
            rw [Int.natCast_mul, ← Int.add_mul]
            congr 1
            omega
          rw [ej] at ht
          have hlt : i + 1 < (t + 1 + 1) * (k + 1) := by
            generalize (t + 1 + 1) * (k + 1) = M at ht ⊢
            omega
          have hle : (i + 1) / (k + 1) < t + 1 + 1 := (Nat.div_lt_iff_lt_mul (Nat.succ_pos k)).mpr hlt
          rw [if_pos d, if_pos ⟨d.1, d.2, Nat.le_of_lt_succ hle⟩]
        · rw [if_neg d, if_neg fun z => d ⟨z.1, z.2.1⟩]
    · rintro σ' H' ⟨y3, y4, rfl, e, g⟩
      rw [show ((r.length : Int) + 1 - 1).toNat = r.length by omega] at g
      exact s_ret (ev_var rfl) fun H4 e4 => q pn H4 fp (e.trans e4) (e4 _ _ g)
/-! ### row_of -/
def sp_row_of (K : PySem.W.Frag) : Sp := fun vs H Q _ => ∃ (a : Addr) (c : List Int), vs = [.ref a] ∧ SqL K H a (vi c) ∧ 0 < c.length ∧ c.length ≤ 4000 ∧ (∀ n ∈ c, 0 ≤ n) ∧ RetL (vi (rowL c)) H Q
theorem l_row_of {K : PySem.W.Frag} {H : Hp} {a : Addr} {c : List Int} (h : SqL K H a (vi c)) (h0 : 0 < c.length) (h1 : c.length ≤ 4000) (hn : ∀ n ∈ c, 0 ≤ n) : SpL (sp_row_of K) [.ref a] H (vi (rowL c)) := fun H1 e Q q E => ⟨a, c, rfl, ex_l e h, h0, h1, hn, q⟩
theorem ok_row_of (T : Txt K mg) : FnG P w K mg base CX0 3 T.a_row_of T.d_row_of ["counts"] (sp_row_of K) := by
  refine okG T.F_row_of sc_row_of (fun vs H Q E h => ?_) (fun cdv A out s H vs Q E hr h => ?_)
  · obtain ⟨a, c, rfl, hS, h0, h1, hn, q⟩ := h
    rfl
  · obtain ⟨a, c, rfl, hS, h0, h1, hn, q⟩ := h
    refine ⟨_, (pss_cons (ps_expr (callG (ok_check_counts T) (hr.mono (by decide)) (by rfl) T.g_check_counts T.F_check_counts.kp (b_check_counts T) .nil pass0 (pa_cons (pv 0) pa_nil)))
    (pss_cons (ps_set (i := 1) sc_row_of.nd rfl (.inl rfl) (pe_callB (call_lenK (K := K) rfl) (by rfl) T.z_len bt_len (pa_cons (pv 0) pa_nil)))
    (pss_cons (ps_set (i := 2) sc_row_of.nd rfl (.inl rfl) (pe_op op_rep (pe_lst (pa_cons pe_int pa_nil)) (pv 1)))
    (pss_cons (ps_for PassesOwn.never rfl (pi_enumC (c := 1) (by rfl) T.z_enumerate (pa_cons (pv 0) pa_nil)) (pg_tup rfl (pgs_cons (pg_name (i := 3) sc_row_of.nd rfl (.inl rfl)) (pgs_cons (pg_name (i := 4) sc_row_of.nd rfl (.inl rfl)) pgs_nil)))
      (pss_one (ps_for PassesOwn.never rfl (pi_range3 (by rfl) T.z_range (pa_cons (pv 3) (pa_cons (pe_op op_add (pv 1) pe_int) (pa_cons (pv 3) pa_nil)))) (pg_name (i := 5) sc_row_of.nd rfl (.inl rfl))
        (pss_one (ps_augS (pv 2) (pe_op op_sub (pv 5) pe_int) pget_list (pe_op op_mul (pv 3) (pv 4)) ip_add set_list)))))
    (pss_one (ps_ret (pv 2))))))), ?_⟩
    refine q_drop (ev_call (ea_cons (ev_var rfl) ea_nil) (v_check_counts hS h0 hn)) fun H1 e1 => ?_
    refine q_asg (v := .int (c.length : Int)) (ev_is (ev_len (ev_var rfl) (ex_l e1 hS)) (by rw [List.length_map])) fun H2 e2 => ?_
    refine q_asgL (xs := vi (List.replicate c.length 0)) (el_is (el_rep (n := (c.length : Int)) (el_lst (ea_cons ev_c ea_nil) (by show 1 ≤ 100000; decide)) (fun H1 e2 => ev_var rfl) (by omega) (by show 1 * _ ≤ _; omega) (by omega)) (by rw [Int.toNat_natCast]; exact flat_rep _ _)) fun pn H3 f3 e3 h3 => ?_
    have fp : H pn = none := fresh_back (e1.trans e2) f3
    refine q_forEnC (c := 1) (ev_var rfl) (ex_l ((e1.trans e2).trans e3) hS)
      (fun k σ' H' => ∃ (y3 y4 y5 : Option V), σ' = [some (.ref a), some (.int (c.length : Int)), some (.ref pn), y3, y4, y5] ∧ Ex H H' ∧ H' pn = some (.lst (vi (tabL c.length fun i => part c i k)))) ?_ ?_ ?_ ?_
    · intro H4 e4
      refine ⟨_, _, _, rfl, ((e1.trans e2).trans e3).trans e4, ?_⟩
      rw [e4 _ _ h3, tab_zero]
      rfl
    · rintro k σ' H' _ ⟨y3, y4, y5, rfl, e, g⟩
      exact ex_l e hS
    · rintro k x σ' H' hx ⟨y3, y4, y5, rfl, e, g⟩ H0 e0
      have hk' : k < c.length := by
        have := (List.getElem?_eq_some_iff.mp hx).1
        rw [List.length_map] at this
        exact this
      rw [getD_at hk'] at hx
      cases hx
      have e1k : (1 : Int) + (k : Int) = ((k + 1 : Nat) : Int) := by omega
      rw [e1k]
      refine s_forR3G (lo := ((k + 1 : Nat) : Int)) (j := (c.length : Int) + 1) (c := ((k + 1 : Nat) : Int)) (ea_cons (ev_var rfl) (ea_cons (ev_op (ev_var rfl) ev_c rv_I0) (ea_cons (ev_var rfl) ea_nil))) (by omega) (by omega) (by omega) (by omega) (by omega) (by omega)
        (fun t σ' H' => ∃ (y5 : Option V), σ' = [some (.ref a), some (.int (c.length : Int)), some (.ref pn), some (.int ((k + 1 : Nat) : Int)), some (.int (c.getD k 0)), y5] ∧ Ex H H' ∧ H' pn = some (.lst (vi (tabL c.length fun i => part c i k + (if (i + 1) % (k + 1) = 0 ∧ (i + 1) / (k + 1) ≤ t then ((k + 1 : Nat) : Int) * c.getD k 0 else 0))))) ?_ ?_ ?_
      · intro H4 e4
        refine ⟨_, rfl, (e.trans e0).trans e4, ?_⟩
        rw [e4 _ _ (e0 _ _ g)]
        congr 3
        refine tab_congr fun i hi => ?_
        rw [if_neg, Int.add_zero]
        rintro ⟨h2, h3⟩
        have e := Nat.div_add_mod (i + 1) (k + 1)
        rw [h2, Nat.le_zero.mp h3] at e
        omega
      · rintro t σ'' H'' ht ⟨y5, rfl, e', g'⟩
        have ej : ((k + 1 : Nat) : Int) + (t : Int) * ((k + 1 : Nat) : Int) = (((k + 1) * (t + 1) : Nat) : Int) := by
          rw [Int.natCast_mul, Int.mul_comm, Int.natCast_add t 1, Int.mul_add]
          omega
        rw [ej] at ht ⊢
        have hpos : 0 < (k + 1) * (t + 1) := Nat.mul_pos (Nat.succ_pos k) (Nat.succ_pos _)
        obtain ⟨m1, m2⟩ := mul_mod (n := k + 1) (t := t) (Nat.succ_pos k)
        generalize hj : (k + 1) * (t + 1) = M at *
        refine s_augL (j := M - 1) (f := fun i j => i + j) (a := part c (M - 1) k) (b := ((k + 1 : Nat) : Int) * c.getD k 0) (ev_var rfl) (ev_is (ev_op (ev_var rfl) ev_c rv_I0) (by congr 1; omega)) g' (by
          rw [tab_at (by omega), if_neg]
          · rw [Int.add_zero]
          · rintro ⟨_, z⟩
            omega) (ev_op (ev_var rfl) (ev_var rfl) (rv_I (cml (by omega)))) fun H4 e4 => ?_
        refine ⟨_, rfl, (e'.trans e4).mut fp, ?_⟩
        rw [upd_same, vi_set, tab_set (by omega)]
        congr 3
        refine tab_congr fun i hi => ?_
        by_cases d0 : i = M - 1
        · rw [if_pos d0, d0, if_pos ⟨m1, by omega⟩]
        · rw [if_neg d0]
          by_cases d : (i + 1) % (k + 1) = 0
          · have hx := mul_ix (n := k + 1) (t := t) (Nat.succ_pos k) d
            rw [hj] at hx
            by_cases d2 : (i + 1) / (k + 1) ≤ t
            · rw [if_pos ⟨d, d2⟩, if_pos ⟨d, by omega⟩]
            · rw [if_neg fun z => d2 z.2, if_neg fun z => (hx.mp z.2).elim d2 fun z => by omega]
          · rw [if_neg fun z => d z.1, if_neg fun z => d z.1]
      · rintro t σ'' H'' ht ⟨y5, rfl, e', g'⟩
        refine ⟨_, _, _, rfl, e', ?_⟩
        rw [g']
        congr 3
        refine tab_congr fun i hi => ?_
        show _ = part c i k + (if (i + 1) % (k + 1) = 0 then ((k + 1 : Nat) : Int) * c.getD k 0 else 0)
        by_cases d : (i + 1) % (k + 1) = 0
        · have ej : ((k + 1 : Nat) : Int) + (t : Int) * ((k + 1 : Nat) : Int) = (((t + 1) * (k + 1) : Nat) : Int) := by
            rw [Int.natCast_mul, Int.natCast_add t 1, Int.add_mul]
            omega
          rw [ej] at ht
          have hlt : i + 1 < (t + 1) * (k + 1) := by
            generalize (t + 1) * (k + 1) = M at ht ⊢
            omega
          have hle : (i + 1) / (k + 1) < t + 1 := (Nat.div_lt_iff_lt_mul (Nat.succ_pos k)).mpr hlt
          rw [if_pos d, if_pos ⟨d, Nat.le_of_lt_succ hle⟩]
        · rw [if_neg d, if_neg fun z => d z.1]
    · rintro σ' H' ⟨y3, y4, y5, rfl, e, g⟩
      rw [List.length_map] at g
      have eR : (tabL c.length fun i => part c i c.length) = rowL c := tab_congr fun i hi => part_stay c i hi
      rw [eR] at g
      exact s_ret (ev_var rfl) fun H4 e4 => q pn H4 fp (e.trans e4) (e4 _ _ g)
/-! ### added -/
def sp_added (K : PySem.W.Frag) : Sp := fun vs H Q _ => ∃ (a b : Addr) (xs ys : List Int), vs = [.ref a, .ref b] ∧ SqL K H a (vi xs) ∧ SqL K H b (vi ys) ∧ 0 < xs.length ∧ xs.length ≤ 4000 ∧ 0 < ys.length ∧ ys.length ≤ 4000 ∧ RetL (vi (addL xs ys)) H Q
theorem l_added {K : PySem.W.Frag} {H : Hp} {a b : Addr} {xs ys : List Int} (ha : SqL K H a (vi xs)) (hb : SqL K H b (vi ys)) (h0 : 0 < xs.length) (h1 : xs.length ≤ 4000) (h2 : 0 < ys.length) (h3 : ys.length ≤ 4000) : SpL (sp_added K) [.ref a, .ref b] H (vi (addL xs ys)) := fun H1 e Q q E => ⟨a, b, xs, ys, rfl, ex_l e ha, ex_l e hb, h0, h1, h2, h3, q⟩
theorem ok_added (T : Txt K mg) : FnG P w K mg base CX0 3 T.a_added T.d_added ["one", "two"] (sp_added K) := by
  refine okG T.F_added sc_added (fun vs H Q E h => ?_) (fun cdv A out s H vs Q E hr h => ?_)
  · obtain ⟨a, b, xs, ys, rfl, hA, hB, h0, h1, h2, h3, q⟩ := h
    rfl
  · obtain ⟨a, b, xs, ys, rfl, hA, hB, h0, h1, h2, h3, q⟩ := h
    refine ⟨_, (pss_cons (ps_expr (callG (ok_check_row T) (hr.mono (by decide)) (by rfl) T.g_check_row T.F_check_row.kp (b_check_row T) .nil pass0 (pa_cons (pv 0) pa_nil)))
    (pss_cons (ps_expr (callG (ok_check_row T) (hr.mono (by decide)) (by rfl) T.g_check_row T.F_check_row.kp (b_check_row T) .nil pass0 (pa_cons (pv 1) pa_nil)))
    (pss_one (ps_ret (pe_lc (own := [("left", 2), ("right", 3)]) (g := g2 K 2 3) rfl sc_added.nd (pi_zip (by rfl) T.z_zip (pa_cons (pv 0) (pa_cons (pv 1) pa_nil))) (blkOk_by (own := [("left", 2), ("right", 3)]) (N := ["one", "two", "left", "right"]) (sc := defScope s_added) (by decide +kernel)) (fun _ _ _ _ _ => (pg_tup rfl (pgs_cons (pg_name (i := 2) sc_added.nd rfl (Or.inl rfl)) (pgs_cons (pg_name (i := 3) sc_added.nd rfl (Or.inl rfl)) pgs_nil)))) (fun _ _ _ _ _ => pts_nil) (fun _ _ _ _ _ => (pe_op op_add (pv 2) (pv 3)))))))), ?_⟩
    refine q_drop (ev_call (ea_cons (ev_var rfl) ea_nil) (v_check_row hA h0 h1)) fun H1 e1 => ?_
    refine q_drop (ev_call (ea_cons (ev_var rfl) ea_nil) (v_check_row (ex_l e1 hB) h2 h3)) fun H2 e2 => ?_
    have ee := e1.trans e2
    refine s_retL (el_is (el_lcZ (fun i => V.int (xs.getD i 0 + ys.getD i 0)) (ev_var rfl) (ev_var rfl) (ex_l ee hA) (ex_l ee hB) (by rw [List.length_map]; omega) (fun _ _ => rfl) ?_) ?_) fun p H3 hp e3 h3 => q p H3 (fresh_back ee hp) (ee.trans e3) h3
    · intro i x y H3 e3 hx hy
      obtain ⟨x', rfl, _, ex⟩ := vi_inv hx
      obtain ⟨y', rfl, _, ey⟩ := vi_inv hy
      rw [ex, ey]
      exact ev_op (ev_var rfl) (ev_var rfl) rv_I0
    · rw [List.length_map, List.length_map]
      exact given_tab _ _
/-! ### multiplied -/
def sp_multiplied (K : PySem.W.Frag) : Sp := fun vs H Q _ => ∃ (a b : Addr) (xs ys : List Int), vs = [.ref a, .ref b] ∧ SqL K H a (vi xs) ∧ SqL K H b (vi ys) ∧ 0 < xs.length ∧ xs.length ≤ 4000 ∧ 0 < ys.length ∧ ys.length ≤ 4000 ∧ (∀ i, CMulW (xs.getD i 0) (ys.getD i 0)) ∧ RetL (vi (mulL xs ys)) H Q
theorem l_multiplied {K : PySem.W.Frag} {H : Hp} {a b : Addr} {xs ys : List Int} (ha : SqL K H a (vi xs)) (hb : SqL K H b (vi ys)) (h0 : 0 < xs.length) (h1 : xs.length ≤ 4000) (h2 : 0 < ys.length) (h3 : ys.length ≤ 4000) (hc : ∀ i, CMulW (xs.getD i 0) (ys.getD i 0)) : SpL (sp_multiplied K) [.ref a, .ref b] H (vi (mulL xs ys)) := fun H1 e Q q E => ⟨a, b, xs, ys, rfl, ex_l e ha, ex_l e hb, h0, h1, h2, h3, hc, q⟩
theorem ok_multiplied (T : Txt K mg) : FnG P w K mg base CX0 3 T.a_multiplied T.d_multiplied ["one", "two"] (sp_multiplied K) := by
  refine okG T.F_multiplied sc_multiplied (fun vs H Q E h => ?_) (fun cdv A out s H vs Q E hr h => ?_)
  · obtain ⟨a, b, xs, ys, rfl, hA, hB, h0, h1, h2, h3, hc, q⟩ := h
    rfl
  · obtain ⟨a, b, xs, ys, rfl, hA, hB, h0, h1, h2, h3, hc, q⟩ := h
    refine ⟨_, (pss_cons (ps_expr (callG (ok_check_row T) (hr.mono (by decide)) (by rfl) T.g_check_row T.F_check_row.kp (b_check_row T) .nil pass0 (pa_cons (pv 0) pa_nil)))
    (pss_cons (ps_expr (callG (ok_check_row T) (hr.mono (by decide)) (by rfl) T.g_check_row T.F_check_row.kp (b_check_row T) .nil pass0 (pa_cons (pv 1) pa_nil)))
    (pss_one (ps_ret (pe_lc (own := [("left", 2), ("right", 3)]) (g := g2 K 2 3) rfl sc_multiplied.nd (pi_zip (by rfl) T.z_zip (pa_cons (pv 0) (pa_cons (pv 1) pa_nil))) (blkOk_by (own := [("left", 2), ("right", 3)]) (N := ["one", "two", "left", "right"]) (sc := defScope s_multiplied) (by decide +kernel)) (fun _ _ _ _ _ => (pg_tup rfl (pgs_cons (pg_name (i := 2) sc_multiplied.nd rfl (Or.inl rfl)) (pgs_cons (pg_name (i := 3) sc_multiplied.nd rfl (Or.inl rfl)) pgs_nil)))) (fun _ _ _ _ _ => pts_nil) (fun _ _ _ _ _ => (pe_op op_mulW (pv 2) (pv 3)))))))), ?_⟩
    refine q_drop (ev_call (ea_cons (ev_var rfl) ea_nil) (v_check_row hA h0 h1)) fun H1 e1 => ?_
    refine q_drop (ev_call (ea_cons (ev_var rfl) ea_nil) (v_check_row (ex_l e1 hB) h2 h3)) fun H2 e2 => ?_
    have ee := e1.trans e2
    refine s_retL (el_is (el_lcZ (fun i => V.int (xs.getD i 0 * ys.getD i 0)) (ev_var rfl) (ev_var rfl) (ex_l ee hA) (ex_l ee hB) (by rw [List.length_map]; omega) (fun _ _ => rfl) ?_) ?_) fun p H3 hp e3 h3 => q p H3 (fresh_back ee hp) (ee.trans e3) h3
    · intro i x y H3 e3 hx hy
      obtain ⟨x', rfl, _, ex⟩ := vi_inv hx
      obtain ⟨y', rfl, _, ey⟩ := vi_inv hy
      have hci := hc i
      rw [ex, ey] at hci
      rw [ex, ey]
      exact ev_op (ev_var rfl) (ev_var rfl) (rv_I hci)
    · rw [List.length_map, List.length_map]
      exact given_tab _ _
/-! ### each -/
def sp_each (K : PySem.W.Frag) : Sp := fun vs H Q _ => ∃ (a : Addr) (r : List Int) (c : Nat), vs = [.ref a, .int (c : Int)] ∧ SqL K H a (vi r) ∧ 0 < r.length ∧ r.length ≤ 4000 ∧ 1 ≤ c ∧ c ≤ r.length ∧ RetL (vi (eachL r c)) H Q
theorem l_each {K : PySem.W.Frag} {H : Hp} {a : Addr} {r : List Int} {c : Nat} (h : SqL K H a (vi r)) (h0 : 0 < r.length) (h1 : r.length ≤ 4000) (c0 : 1 ≤ c) (c1 : c ≤ r.length) : SpL (sp_each K) [.ref a, .int (c : Int)] H (vi (eachL r c)) := fun H1 e Q q E => ⟨a, r, c, rfl, ex_l e h, h0, h1, c0, c1, q⟩
theorem ok_each (T : Txt K mg) : FnG P w K mg base CX0 3 T.a_each T.d_each ["row", "step"] (sp_each K) := by
  refine okG T.F_each sc_each (fun vs H Q E h => ?_) (fun cdv A out s H vs Q E hr h => ?_)
  · obtain ⟨a, r, c, rfl, hS, h0, h1, c0, c1, q⟩ := h
    rfl
  · obtain ⟨a, r, c, rfl, hS, h0, h1, c0, c1, q⟩ := h
    refine ⟨_, (pss_cons (ps_expr (callG (ok_check_row T) (hr.mono (by decide)) (by rfl) T.g_check_row T.F_check_row.kp (b_check_row T) .nil pass0 (pa_cons (pv 0) pa_nil)))
    (pss_cons (ps_if (pt_not (pt_val (callG (ok_is_from_to T) (hr.mono (by decide)) (by rfl) T.g_is_from_to T.F_is_from_to.kp (b_is_from_to T) .nil pass0 (pa_cons (pv 1) (pa_cons pe_int (pa_cons (pe_callB (call_lenK (K := K) rfl) (by rfl) T.z_len bt_len (pa_cons (pv 0) pa_nil)) pa_nil))))))
      (pss_one ps_never)
      pss_nil)
    (pss_one (ps_ret (pe_sliceS (pv 0) (po_some (pe_op op_sub (pv 1) pe_int)) (po_some (pv 1))))))), ?_⟩
    refine q_drop (ev_call (ea_cons (ev_var rfl) ea_nil) (v_check_row hS h0 h1)) fun H1 e1 => ?_
    have hS1 := ex_l e1 hS
    refine q_when (b := false) (et_not (a := true) (et_test (ev_is (ev_call (ea_cons (ev_var rfl) (ea_cons ev_c (ea_cons (ev_is (ev_len (ev_var rfl) hS1) (by rw [List.length_map])) ea_nil))) v_is_from_to) (by rw [decide_eq_true (show (1 : Int) ≤ (c : Int) by omega), decide_eq_true (show (c : Int) ≤ (r.length : Int) by omega)]; rfl)))) (fun h => nomatch h) fun _ H2 e2 => ?_
    exact s_retL (el_is (el_slS (ev_var rfl) (eo_some (ev_op (ev_var rfl) ev_c rv_I0)) (eo_some (ev_var rfl)) (ex_l e2 hS1) (by intro z; have := Option.some.inj z; omega)) (step_tab c0 c1)) fun p H3 hp e3 h3 => q p H3 (fresh_back (e1.trans e2) hp) ((e1.trans e2).trans e3) h3
/-! ### lengths -/
def sp_lengths (K : PySem.W.Frag) : Sp := fun vs H Q _ => ∃ (a : Addr) (ds : List Int), vs = [.ref a] ∧ SqT K H a (vi ds) ∧ Shf ds ∧ (Rings ds (ringsL ds ds.length) ds.length → RetL (vi (lensL ds)) H Q)
theorem l_lengths {K : PySem.W.Frag} {H : Hp} {a : Addr} {ds : List Int} (h : SqT K H a (vi ds)) (s : Shf ds) : SpL (sp_lengths K) [.ref a] H (vi (lensL ds)) :=
  fun H1 e Q q E => ⟨a, ds, rfl, ex_t e h, s, fun _ => q⟩
theorem ok_lengths (T : Txt K mg) : FnG P w K mg base CX0 3 T.a_lengths T.d_lengths ["shuffle"] (sp_lengths K) := by
  refine okG T.F_lengths sc_lengths (fun vs H Q E h => ?_) (fun cdv A out s H vs Q E hr h => ?_)
  · obtain ⟨a, ds, rfl, hA, hs, q⟩ := h
    rfl
  · obtain ⟨a, ds, rfl, hA, hs, q⟩ := h
    refine ⟨_, (pss_cons (ps_expr (callG (ok_check_shuffle T) (hr.mono (by decide)) (by rfl) T.g_check_shuffle T.F_check_shuffle.kp (b_check_shuffle T) .nil pass0 (pa_cons (pv 0) pa_nil)))
    (pss_one (ps_ret (pe_callB cr_sortedI (by rfl) T.z_sorted bt_sorted (pa_cons (pe_lc (own := [("ring", 1)]) (g := gName 1) rfl sc_lengths.nd (pi_listK (K := K) rfl (callG (ok_rings_in T) (hr.mono (by decide)) (by rfl) T.g_rings_in T.F_rings_in.kp (b_rings_in T) .nil pass0 (pa_cons (pv 0) pa_nil))) (blkOk_by (own := [("ring", 1)]) (N := ["shuffle", "ring"]) (sc := defScope s_lengths) (by decide +kernel)) (fun _ _ _ _ _ => (pg_name (i := 1) sc_lengths.nd rfl (Or.inl rfl))) (fun _ _ _ _ _ => pts_nil) (fun _ _ _ _ _ => (pe_callB (call_lenK (K := K) rfl) (by rfl) T.z_len bt_len (pa_cons (pv 1) pa_nil)))) pa_nil))))), ?_⟩
    have h3 := hs.2.1
    have rg := rings_of hs
    refine q_drop (ev_call (ea_cons (ev_var rfl) ea_nil) (v_check_shuffle hA hs)) fun H1 e1 => ?_
    have hrl := rings_length rg
    refine s_retL (el_sortedN (el_is (el_lcN (R := ringsL ds ds.length) (fun _ => true) (fun i => V.int ((((ringsL ds ds.length).getD i []).length : Nat) : Int)) (en_call (ea_cons (ev_var rfl) ea_nil) (n_rings_in (ex_t e1 hA) hs)) (by omega) (fun _ => rfl) (fun _ _ _ _ _ _ _ => et_yes) ?_) ?_) (lens_perm ds) (lens_sorted ds)) fun p H2 hp e2 h2 => q rg p H2 (fresh_back e1 hp) (e1.trans e2) h2
    · intro i b r H2 e2 hr hb _
      rw [List.getD_eq_getElem?_getD, hr]
      exact ev_is (ev_len (ev_var rfl) (sq_of hb)) (by rw [List.length_map, up_length]; rfl)
    · rw [given_ints]
      unfold up
      rw [List.map_map]
      refine congrArg vi (List.ext_getElem? fun i => ?_)
      rw [List.getElem?_map, List.getElem?_map]
      by_cases hi : i < (ringsL ds ds.length).length
      · rw [List.getElem?_range hi, List.getElem?_eq_getElem hi]
        show some ((((ringsL ds ds.length).getD i []).length : Nat) : Int) = _
        rw [List.getD_eq_getElem?_getD, List.getElem?_eq_getElem hi]
        rfl
      · rw [List.getElem?_eq_none (by rw [List.length_range]; omega), List.getElem?_eq_none (by omega)]
        rfl
/-! ### turned -/
def sp_turned (K : PySem.W.Frag) : Sp := fun vs H Q _ => ∃ (a : Addr) (ds : List Int) (t : Int), vs = [.ref a, .int t] ∧ SqT K H a (vi ds) ∧ Shf ds ∧ RetU (vi (turnL ds t)) H Q
theorem u_turned {K : PySem.W.Frag} {H : Hp} {a : Addr} {ds : List Int} {t : Int} (h : SqT K H a (vi ds)) (s : Shf ds) : SpU (sp_turned K) [.ref a, .int t] H (vi (turnL ds t)) :=
  fun H1 e Q q E => ⟨a, ds, t, rfl, ex_t e h, s, q⟩
theorem ok_turned (T : Txt K mg) : FnG P w K mg base CX0 3 T.a_turned T.d_turned ["shuffle", "times"] (sp_turned K) := by
  refine okG T.F_turned sc_turned (fun vs H Q E h => ?_) (fun cdv A out s H vs Q E hr h => ?_)
  · obtain ⟨a, ds, t, rfl, hA, hs, q⟩ := h
    rfl
  · obtain ⟨a, ds, t, rfl, hA, hs, q⟩ := h
    refine ⟨_, (pss_cons (ps_expr (callG (ok_check_shuffle T) (hr.mono (by decide)) (by rfl) T.g_check_shuffle T.F_check_shuffle.kp (b_check_shuffle T) .nil pass0 (pa_cons (pv 0) pa_nil)))
    (pss_cons (ps_if (pt_not (pt_val (callG (ok_is_whole T) (hr.mono (by decide)) (by rfl) T.g_is_whole T.F_is_whole.kp (b_is_whole T) .nil pass0 (pa_cons (pv 1) pa_nil))))
      (pss_one ps_never)
      pss_nil)
    (pss_cons (ps_set (i := 2) sc_turned.nd rfl (.inl rfl) (pe_op op_rep (pe_lst (pa_cons pe_int pa_nil)) (pe_callB (call_lenK (K := K) rfl) (by rfl) T.z_len bt_len (pa_cons (pv 0) pa_nil))))
    (pss_cons (ps_for PassesOwn.never rfl (pi_listK (K := K) rfl (callG (ok_rings_in T) (hr.mono (by decide)) (by rfl) T.g_rings_in T.F_rings_in.kp (b_rings_in T) .nil pass0 (pa_cons (pv 0) pa_nil))) (pg_name (i := 3) sc_turned.nd rfl (.inl rfl))
      (pss_one (ps_for PassesOwn.never rfl (pi_enum (by rfl) T.z_enumerate (pa_cons (pv 3) pa_nil)) (pg_tup rfl (pgs_cons (pg_name (i := 4) sc_turned.nd rfl (.inl rfl)) (pgs_cons (pg_name (i := 5) sc_turned.nd rfl (.inl rfl)) pgs_nil)))
        (pss_one (ps_asg (pe_ix (ix_listK (K := K) rfl) (pv 3) (pe_op op_mod (pe_op op_add (pv 4) (pv 1)) (pe_callB (call_lenK (K := K) rfl) (by rfl) T.z_len bt_len (pa_cons (pv 3) pa_nil))) (fun _ _ => rfl)) (pg_sub (pv 2) (pv 5) set_list))))))
    (pss_one (ps_ret (pe_callTy (call_tupleK (K := K) rfl) (by rfl) T.z_tuple bt_tuple (pa_cons (pv 2) pa_nil)))))))), ?_⟩
    have h3 := hs.2.1
    have rg := rings_of hs
    have hl : ((vi ds).length : Int) = (ds.length : Int) := by rw [List.length_map]
    refine q_drop (ev_call (ea_cons (ev_var rfl) ea_nil) (v_check_shuffle hA hs)) fun H0 e0 => ?_
    refine q_when (b := false) (et_not (a := true) (et_test (ev_call (ea_cons (ev_var rfl) ea_nil) (v_is_whole t)))) (fun h => nomatch h) fun _ H1 e1 => ?_
    have hA1 := ex_t (e0.trans e1) hA
    refine q_asgL (xs := vi (List.replicate ds.length 0)) (el_is (el_rep (n := (ds.length : Int)) (el_lst (ea_cons ev_c ea_nil) (by show 1 ≤ 100000; decide)) (fun H1 e2 => ev_is (ev_lenT (ev_var rfl) (ex_t e2 hA1)) (by rw [hl])) (by omega) (by show 1 * _ ≤ _; omega) (by omega)) (by rw [Int.toNat_natCast]; exact flat_rep _ _)) fun pf H2 f2 e2 h2 => ?_
    have fp : H pf = none := fresh_back (e0.trans e1) f2
    refine q_forN (R := ringsL ds ds.length) (en_call (ea_cons (ev_var rfl) ea_nil) (n_rings_in (ex_t e2 hA1) hs)) (fun p qs i σ' H' => ∃ (F : List Int) (y3 y4 y5 : Option V), σ' = [some (.ref a), some (.int t), some (.ref pf), y3, y4, y5] ∧ Ex H H' ∧ H' p = some (.lst (qs.map .ref)) ∧ Nest H' qs (ringsL ds ds.length) ∧ H' pf = some (.lst (vi F)) ∧ F.length = ds.length ∧ p ≠ pf ∧ (∀ q ∈ qs, q ≠ pf) ∧ ∀ k ∈ ((ringsL ds ds.length).take i).flatten, F.getD k 0 = (tn ds t k : Int)) ?_ ?_ ?_ ?_
    · intro p qs H3 f3 e3 g3 nq fq
      refine ⟨List.replicate ds.length 0, _, _, _, rfl, ((e0.trans e1).trans e2).trans e3, g3, nq, e3 _ _ h2, List.length_replicate, ne_of_none' f3 h2, fun q hq => ne_of_none' (fq q hq) h2, fun k hk => ?_⟩
      exact nomatch hk
    · rintro p qs i σ' H' hi ⟨F, y3, y4, y5, rfl, e, gp, nq, gf, fl, np, nqf, inv⟩
      exact ⟨gp, nq⟩
    · rintro p qs i b r σ' H' hr hb hbq ⟨F, y3, y4, y5, rfl, e, gp, nq, gf, fl, np, nqf, inv⟩
      have ir := rg.ring r (List.mem_of_getElem? hr)
      have lr : ((vi (up r)).length : Int) = (r.length : Int) := by rw [List.length_map, up_length]
      have nb := nqf b hbq
      refine s_forEn (ev_var rfl) (sq_of hb) (fun j σ' H' => ∃ (F : List Int) (y4 y5 : Option V), σ' = [some (.ref a), some (.int t), some (.ref pf), some (.ref b), y4, y5] ∧ Ex H H' ∧ H' p = some (.lst (qs.map .ref)) ∧ Nest H' qs (ringsL ds ds.length) ∧ H' b = some (.lst (vi (up r))) ∧ H' pf = some (.lst (vi F)) ∧ F.length = ds.length ∧ (∀ k ∈ ((ringsL ds ds.length).take i).flatten, F.getD k 0 = (tn ds t k : Int)) ∧ ∀ j', j' < j → F.getD (r.getD j' 0) 0 = (tn ds t (r.getD j' 0) : Int)) ?_ ?_ ?_ ?_
      · intro H3 e3
        exact ⟨F, _, _, rfl, e.trans e3, e3 _ _ gp, nq.ex e3, e3 _ _ hb, e3 _ _ gf, fl, inv, fun j' h => absurd h (Nat.not_lt_zero _)⟩
      · rintro j σ'' H'' hj ⟨F, y4, y5, rfl, e', gp', nq', gb', gf', fl', inv', new'⟩
        exact sq_of gb'
      · rintro j x σ'' H'' hx ⟨F, y4, y5, rfl, e', gp', nq', gb', gf', fl', inv', new'⟩ H3 e3
        have hj : j < r.length := by
          have := (List.getElem?_eq_some_iff.mp hx).1
          rw [List.length_map, up_length] at this
          exact this
        rw [up_at hj] at hx
        cases hx
        have hk : r.getD j 0 < ds.length := ir.lt _ (by rw [getD_of hj]; exact List.getElem_mem hj)
        have hp := ir.pos
        have m0 := Int.emod_nonneg ((j : Int) + t) (show (r.length : Int) ≠ 0 by omega)
        have m1 : ((j : Int) + t) % (r.length : Int) < r.length := Int.emod_lt_of_pos _ (by omega)
        refine s_setL (j := r.getD j 0) (e3 _ _ gf') (ev_op (ev_var rfl) (ev_op (ev_op (ev_var rfl) (ev_var rfl) rv_I0) (ev_is (ev_len (ev_var rfl) (sq_of (e3 _ _ gb'))) (by rw [lr])) (rv_I (show (0 : Int) < (r.length : Int) by omega))) (rv_ixL (v := .int (tn ds t (r.getD j 0) : Int)) (sq_of (e3 _ _ gb')) (by
          rw [← tn_ring ir t hj, show ((j : Int) + t) % (r.length : Int) = (((((j : Int) + t) % (r.length : Int)).toNat : Nat) : Int) by omega]
          exact atI_nat (up_at (by omega))))) (ev_var rfl) (ev_var rfl) (by rw [List.length_map, fl']; exact hk) fun H4 e4 => ?_
        rw [vi_set]
        refine ⟨F.set (r.getD j 0) (tn ds t (r.getD j 0)), _, _, rfl, ((e'.trans e3).trans e4).mut fp, ?_, ?_, ?_, upd_same, by rw [List.length_set]; exact fl', ?_, ?_⟩
        · rw [upd_ne np]
          exact e4 _ _ (e3 _ _ gp')
        · exact ((nq'.ex e3).ex e4).upd nqf
        · rw [upd_ne nb]
          exact e4 _ _ (e3 _ _ gb')
        · intro k hk'
          rw [set_getD (by rw [fl']; exact hk)]
          split
          · rename_i c
            rw [c]
          · exact inv' k hk'
        · intro j' hj2
          rw [set_getD (by rw [fl']; exact hk)]
          split
          · rename_i c
            rw [c]
          · rename_i c
            refine new' j' ?_
            by_cases e5 : j' = j
            · rw [e5] at c
              exact absurd rfl c
            · omega
      · rintro σ'' H'' ⟨F, y4, y5, rfl, e', gp', nq', gb', gf', fl', inv', new'⟩
        refine ⟨F, _, _, _, rfl, e', gp', nq', gf', fl', np, nqf, fun k hk => ?_⟩
        rw [take_flat hr] at hk
        rcases List.mem_append.mp hk with hk | hk
        · exact inv' k hk
        · obtain ⟨j, hj, rfl⟩ := IsRing.mem (ds := ds) hk
          exact new' j (by rw [List.length_map, up_length]; exact hj)
    · rintro p qs σ' H' ⟨F, y3, y4, y5, rfl, e, gp, nq, gf, fl, np, nqf, inv⟩
      have eF : F = turnL ds t := turn_end' fl fun i hi => inv i (by rw [List.take_of_length_le (Nat.le_refl _)]; exact rg.all i hi)
      subst eF
      exact s_retU (eu_tupOf (ev_var rfl) (sq_of gf)) fun r H5 hr e5 h5 => q r H5 (fresh_back e hr) (e.trans e5) h5
/-! ### beside -/
def sp_beside (K : PySem.W.Frag) : Sp := fun vs H Q _ => ∃ (a b : Addr) (xs ys : List Int), vs = [.ref a, .ref b] ∧ SqT K H a (vi xs) ∧ SqT K H b (vi ys) ∧ Shf xs ∧ Shf ys ∧ xs.length + ys.length ≤ 300 ∧ RetU (vi (besL xs ys)) H Q
theorem u_beside {K : PySem.W.Frag} {H : Hp} {a b : Addr} {xs ys : List Int} (ha : SqT K H a (vi xs)) (hb : SqT K H b (vi ys)) (hx : Shf xs) (hy : Shf ys) (h : xs.length + ys.length ≤ 300) : SpU (sp_beside K) [.ref a, .ref b] H (vi (besL xs ys)) :=
  fun H1 e Q q E => ⟨a, b, xs, ys, rfl, ex_t e ha, ex_t e hb, hx, hy, h, q⟩
theorem ok_beside (T : Txt K mg) : FnG P w K mg base CX0 3 T.a_beside T.d_beside ["one", "two"] (sp_beside K) := by
  refine okG T.F_beside sc_beside (fun vs H Q E h => ?_) (fun cdv A out s H vs Q E hr h => ?_)
  · obtain ⟨a, b, xs, ys, rfl, hA, hB, hx, hy, hm, q⟩ := h
    rfl
  · obtain ⟨a, b, xs, ys, rfl, hA, hB, hx, hy, hm, q⟩ := h
    refine ⟨_, (pss_cons (ps_expr (callG (ok_check_shuffle T) (hr.mono (by decide)) (by rfl) T.g_check_shuffle T.F_check_shuffle.kp (b_check_shuffle T) .nil pass0 (pa_cons (pv 0) pa_nil)))
    (pss_cons (ps_expr (callG (ok_check_shuffle T) (hr.mono (by decide)) (by rfl) T.g_check_shuffle T.F_check_shuffle.kp (b_check_shuffle T) .nil pass0 (pa_cons (pv 1) pa_nil)))
    (pss_cons (ps_expr (callG (ok_check_things T) (hr.mono (by decide)) (by rfl) T.g_check_things T.F_check_things.kp (b_check_things T) .nil pass0 (pa_cons (pe_op op_add (pe_callB (call_lenK (K := K) rfl) (by rfl) T.z_len bt_len (pa_cons (pv 0) pa_nil)) (pe_callB (call_lenK (K := K) rfl) (by rfl) T.z_len bt_len (pa_cons (pv 1) pa_nil))) pa_nil)))
    (pss_one (ps_ret (pe_op (op_catTK (K := K) rfl) (pv 0) (pe_callTy (call_tupleK (K := K) rfl) (by rfl) T.z_tuple bt_tuple (pa_cons (pe_lc (own := [("place", 2)]) (g := gName 2) rfl sc_beside.nd (pi_tupK (K := K) rfl (pv 1)) (blkOk_by (own := [("place", 2)]) (N := ["one", "two", "place"]) (sc := defScope s_beside) (by decide +kernel)) (fun _ _ _ _ _ => (pg_name (i := 2) sc_beside.nd rfl (Or.inl rfl))) (fun _ _ _ _ _ => pts_nil) (fun _ _ _ _ _ => (pe_op op_add (pe_callB (call_lenK (K := K) rfl) (by rfl) T.z_len bt_len (pa_cons (pv 0) pa_nil)) (pv 2)))) pa_nil)))))))), ?_⟩
    have lx : ((vi xs).length : Int) = (xs.length : Int) := by rw [List.length_map]
    have ly : ((vi ys).length : Int) = (ys.length : Int) := by rw [List.length_map]
    have x0 := hx.1
    have y0 := hy.1

    refine q_drop (ev_call (ea_cons (ev_var rfl) ea_nil) (v_check_shuffle hA hx)) fun H1 e1 => ?_
    refine q_drop (ev_call (ea_cons (ev_var rfl) ea_nil) (v_check_shuffle (ex_t e1 hB) hy)) fun H2 e2 => ?_
    have hA2 := ex_t (e1.trans e2) hA
    have hB2 := ex_t (e1.trans e2) hB
    refine q_drop (ev_call (ea_cons (ev_op (ev_is (ev_lenT (ev_var rfl) hA2) (by rw [lx])) (ev_is (ev_lenT (ev_var rfl) hB2) (by rw [ly])) rv_I0) ea_nil) (v_check_things (by omega) (by omega))) fun H3 e3 => ?_
    have hA3 := ex_t e3 hA2
    have hB3 := ex_t e3 hB2
    refine s_retU (xs := vi (besL xs ys)) (eu_is (eu_catT (xs := vi xs) (ys := vi (ys.map fun y => (xs.length : Int) + y)) (ev_var rfl) (eu_tupOfN (el_is (el_lcT (fun _ => true) (fun i => V.int ((xs.length : Int) + ys.getD i 0)) (ev_var rfl) hB3 (by rw [List.length_map]; have := hy.2.1; omega) (fun _ => rfl) (fun _ _ _ _ _ => et_yes) ?_) (given_map ys _))) hA3 (vi_ne x0) (vi_ne (by rw [List.length_map]; exact y0)) (by rw [List.length_map, List.length_map, List.length_map]; omega)) ?_) fun r H4 hr e4 h4 => ?_
    · intro i x H4 e4 gx _
      obtain ⟨x', rfl, _, ex⟩ := vi_inv gx
      rw [ex]
      exact ev_op (ev_is (ev_lenT (ev_var rfl) (ex_t e4 hA3)) (by rw [lx])) (ev_var rfl) rv_I0
    · rw [vi_app]
      rfl
    · exact q r H4 (fresh_back ((e1.trans e2).trans e3) hr) (((e1.trans e2).trans e3).trans e4) h4
/-! ### paired -/
def sp_paired (K : PySem.W.Frag) : Sp := fun vs H Q _ => ∃ (a b : Addr) (xs ys : List Int), vs = [.ref a, .ref b] ∧ SqT K H a (vi xs) ∧ SqT K H b (vi ys) ∧ Shf xs ∧ Shf ys ∧ xs.length * ys.length ≤ 300 ∧ RetU (vi (pairL xs ys)) H Q
theorem u_paired {K : PySem.W.Frag} {H : Hp} {a b : Addr} {xs ys : List Int} (ha : SqT K H a (vi xs)) (hb : SqT K H b (vi ys)) (hx : Shf xs) (hy : Shf ys) (h : xs.length * ys.length ≤ 300) : SpU (sp_paired K) [.ref a, .ref b] H (vi (pairL xs ys)) :=
  fun H1 e Q q E => ⟨a, b, xs, ys, rfl, ex_t e ha, ex_t e hb, hx, hy, h, q⟩
theorem ok_paired (T : Txt K mg) : FnG P w K mg base CX0 3 T.a_paired T.d_paired ["one", "two"] (sp_paired K) := by
  refine okG T.F_paired sc_paired (fun vs H Q E h => ?_) (fun cdv A out s H vs Q E hr h => ?_)
  · obtain ⟨a, b, xs, ys, rfl, hA, hB, hx, hy, hm, q⟩ := h
    rfl
  · obtain ⟨a, b, xs, ys, rfl, hA, hB, hx, hy, hm, q⟩ := h
    refine ⟨_, (pss_cons (ps_expr (callG (ok_check_shuffle T) (hr.mono (by decide)) (by rfl) T.g_check_shuffle T.F_check_shuffle.kp (b_check_shuffle T) .nil pass0 (pa_cons (pv 0) pa_nil)))
    (pss_cons (ps_expr (callG (ok_check_shuffle T) (hr.mono (by decide)) (by rfl) T.g_check_shuffle T.F_check_shuffle.kp (b_check_shuffle T) .nil pass0 (pa_cons (pv 1) pa_nil)))
    (pss_cons (ps_expr (callG (ok_check_things T) (hr.mono (by decide)) (by rfl) T.g_check_things T.F_check_things.kp (b_check_things T) .nil pass0 (pa_cons (pe_op op_mul (pe_callB (call_lenK (K := K) rfl) (by rfl) T.z_len bt_len (pa_cons (pv 0) pa_nil)) (pe_callB (call_lenK (K := K) rfl) (by rfl) T.z_len bt_len (pa_cons (pv 1) pa_nil))) pa_nil)))
    (pss_one (ps_ret (pe_callTy (call_tupleK (K := K) rfl) (by rfl) T.z_tuple bt_tuple (pa_cons (pe_lc2 (own := [("left", 2), ("right", 3)]) (vs1 := [3]) (g := gName 2) (g1 := gName 3) rfl sc_paired.nd (pi_tupK (K := K) rfl (pv 0)) (blkOk_by (own := [("left", 2), ("right", 3)]) (N := ["one", "two", "left", "right"]) (sc := defScope s_paired) (by decide +kernel)) (by decide) (fun _ _ _ _ _ => (pg_name (i := 2) sc_paired.nd rfl (Or.inl rfl))) (fun _ _ _ _ _ => pts_nil) (fun _ _ _ _ _ => (pi_tupK (K := K) rfl (pv 1))) (fun _ _ _ _ _ => (pg_name (i := 3) sc_paired.nd rfl (Or.inl rfl))) (fun _ _ _ _ _ => pts_nil) (fun _ _ _ _ _ => (pe_op op_add (pe_op op_mul (pv 2) (pe_callB (call_lenK (K := K) rfl) (by rfl) T.z_len bt_len (pa_cons (pv 1) pa_nil))) (pv 3)))) pa_nil))))))), ?_⟩
    have lx : ((vi xs).length : Int) = (xs.length : Int) := by rw [List.length_map]
    have ly : ((vi ys).length : Int) = (ys.length : Int) := by rw [List.length_map]
    have x0 := hx.1
    have y0 := hy.1
    have hx3 := hx.2.1
    have hy3 := hy.2.1
    have p0 : 0 < xs.length * ys.length := Nat.mul_pos x0 y0
    refine q_drop (ev_call (ea_cons (ev_var rfl) ea_nil) (v_check_shuffle hA hx)) fun H1 e1 => ?_
    refine q_drop (ev_call (ea_cons (ev_var rfl) ea_nil) (v_check_shuffle (ex_t e1 hB) hy)) fun H2 e2 => ?_
    have hA2 := ex_t (e1.trans e2) hA
    have hB2 := ex_t (e1.trans e2) hB
    refine q_drop (ev_call (ea_cons (ev_op (ev_is (ev_lenT (ev_var rfl) hA2) (by rw [lx])) (ev_is (ev_lenT (ev_var rfl) hB2) (by rw [ly])) (rv_I (cml (by omega)))) ea_nil) (v_check_things (by rw [← Int.natCast_mul]; omega) (by rw [← Int.natCast_mul]; omega))) fun H3 e3 => ?_
    have hA3 := ex_t e3 hA2
    have hB3 := ex_t e3 hB2
    refine s_retU (xs := vi (pairL xs ys)) (eu_tupOfN (el_is (el_lc2T (fun i j => V.int (xs.getD i 0 * (ys.length : Int) + ys.getD j 0)) (ev_var rfl) hA3 hB3 (fun _ _ _ => ev_var rfl) (by rw [List.length_map, List.length_map]; omega) (fun _ => rfl) (fun _ _ => rfl) ?_) ?_)) fun r H4 hr e4 h4 => ?_
    · intro n m x y H4 e4 gx gy
      obtain ⟨x', rfl, _, ex⟩ := vi_inv gx
      obtain ⟨y', rfl, _, ey⟩ := vi_inv gy
      have bx := Shf.getD_lt hx n
      rw [ex, ey]
      rw [ex] at bx
      exact ev_op (ev_op (ev_var rfl) (ev_is (ev_lenT (ev_var rfl) (ex_t e4 hB3)) (by rw [ly])) (rv_I (cml (by omega)))) (ev_var rfl) rv_I0
    · rw [List.length_map, List.length_map, flat2_div _ _ y0]
      unfold pairL vi
      rw [List.map_map]
      rfl
    · exact q r H4 (fresh_back ((e1.trans e2).trans e3) hr) (((e1.trans e2).trans e3).trans e4) h4
/-! ### shuffle_of -/
def sp_shuffle_of (K : PySem.W.Frag) : Sp := fun vs H Q _ => ∃ (a : Addr) (ns : List Int), vs = [.ref a] ∧ SqL K H a (vi ns) ∧ 0 < ns.length ∧ ns.length ≤ 300 ∧ (∀ n ∈ ns, 0 ≤ n) ∧ 1 ≤ ths ns ns.length ∧ ths ns ns.length ≤ 300 ∧ RetU (vi (dueL ns ns.length)) H Q
theorem u_shuffle_of {K : PySem.W.Frag} {H : Hp} {a : Addr} {ns : List Int} (h : SqL K H a (vi ns)) (h0 : 0 < ns.length) (h1 : ns.length ≤ 300) (hn : ∀ n ∈ ns, 0 ≤ n) (t1 : 1 ≤ ths ns ns.length) (t2 : ths ns ns.length ≤ 300) : SpU (sp_shuffle_of K) [.ref a] H (vi (dueL ns ns.length)) :=
  fun H1 e Q q E => ⟨a, ns, rfl, ex_l e h, h0, h1, hn, t1, t2, q⟩
theorem ok_shuffle_of (T : Txt K mg) : FnG P w K mg base CX0 3 T.a_shuffle_of T.d_shuffle_of ["counts"] (sp_shuffle_of K) := by
  refine okG T.F_shuffle_of sc_shuffle_of (fun vs H Q E h => ?_) (fun cdv A out s H vs Q E hr h => ?_)
  · obtain ⟨a, ns, rfl, hS, h0, hl, hn, t1, t2, q⟩ := h
    rfl
  · obtain ⟨a, ns, rfl, hS, h0, hl, hn, t1, t2, q⟩ := h
    refine ⟨_, (pss_cons (ps_expr (callG (ok_check_counts T) (hr.mono (by decide)) (by rfl) T.g_check_counts T.F_check_counts.kp (b_check_counts T) .nil pass0 (pa_cons (pv 0) pa_nil)))
    (pss_cons (ps_expr (callG (ok_check_things T) (hr.mono (by decide)) (by rfl) T.g_check_things T.F_check_things.kp (b_check_things T) .nil pass0 (pa_cons (pe_callB (cr_sumK (K := K) rfl rfl) (by rfl) T.z_sum bt_sum (pa_cons (pe_lc (own := [("n", 2), ("count", 3)]) (g := g2 K 2 3) rfl sc_shuffle_of.nd (pi_enumC (c := 1) (by rfl) T.z_enumerate (pa_cons (pv 0) pa_nil)) (blkOk_by (own := [("n", 2), ("count", 3)]) (N := ["counts", "found", "n", "count", "_", "first", "k"]) (sc := defScope s_shuffle_of) (by decide +kernel)) (fun _ _ _ _ _ => (pg_tup rfl (pgs_cons (pg_name (i := 2) sc_shuffle_of.nd rfl (Or.inl rfl)) (pgs_cons (pg_name (i := 3) sc_shuffle_of.nd rfl (Or.inl rfl)) pgs_nil)))) (fun _ _ _ _ _ => pts_nil) (fun _ _ _ _ _ => (pe_op op_mul (pv 2) (pv 3)))) pa_nil)) pa_nil)))
    (pss_cons (ps_set (i := 1) sc_shuffle_of.nd rfl (.inl rfl) (pe_lst pa_nil))
    (pss_cons (ps_for PassesOwn.never rfl (pi_enumC (c := 1) (by rfl) T.z_enumerate (pa_cons (pv 0) pa_nil)) (pg_tup rfl (pgs_cons (pg_name (i := 2) sc_shuffle_of.nd rfl (.inl rfl)) (pgs_cons (pg_name (i := 3) sc_shuffle_of.nd rfl (.inl rfl)) pgs_nil)))
      (pss_one (ps_for PassesOwn.never rfl (pi_range1 (by rfl) T.z_range (pa_cons (pv 3) pa_nil)) (pg_name (i := 4) sc_shuffle_of.nd rfl (.inl rfl))
        (pss_cons (ps_set (i := 5) sc_shuffle_of.nd rfl (.inr rfl) (pe_callB (call_lenK (K := K) rfl) (by rfl) T.z_len bt_len (pa_cons (pv 1) pa_nil)))
        (pss_cons (ps_expr (pe_bm PySem.F.plainAttrs_list PySem.F.slot_list_extend PySem.F.type_list_extend mt_extend (pv 1) (pa_cons (pe_lc (own := [("k", 6)]) (g := gName 6) rfl sc_shuffle_of.nd (pi_range2 (by rfl) T.z_range (pa_cons pe_int (pa_cons (pv 2) pa_nil))) (blkOk_by (own := [("k", 6)]) (N := ["counts", "found", "n", "count", "_", "first", "k"]) (sc := defScope s_shuffle_of) (by decide +kernel)) (fun _ _ _ _ _ => (pg_name (i := 6) sc_shuffle_of.nd rfl (Or.inl rfl))) (fun _ _ _ _ _ => pts_nil) (fun _ _ _ _ _ => (pe_op op_add (pv 5) (pv 6)))) pa_nil)))
        (pss_one (ps_expr (pe_bm PySem.F.plainAttrs_list PySem.F.slot_list_append PySem.F.type_list_append mt_append (pv 1) (pa_cons (pv 5) pa_nil)))))))))
    (pss_one (ps_ret (pe_callTy (call_tupleK (K := K) rfl) (by rfl) T.z_tuple bt_tuple (pa_cons (pv 1) pa_nil)))))))), ?_⟩
    refine q_drop (ev_call (ea_cons (ev_var rfl) ea_nil) (v_check_counts hS h0 hn)) fun H1 e1 => ?_
    have hS1 := ex_l e1 hS
    refine q_drop (v := .non) (ev_call (ea_cons (ev_sumN (el_is (el_lcEnC (fun _ => true) (fun i => V.int ((1 + (i : Int)) * ns.getD i 0)) (ev_var rfl) hS1 (by rw [List.length_map]; omega) (fun _ _ => rfl) (fun _ _ _ _ _ => et_yes) ?_) (given_ints _ _))) ea_nil) ?_) fun H2 e2 => ?_
    · intro n x H2 e2 hx _
      obtain ⟨m, rfl, hm, hg⟩ := vi_inv hx
      rw [hg]
      have hlt := (List.getElem?_eq_some_iff.mp hm).1
      exact ev_op (ev_var rfl) (ev_var rfl) (rv_I (cml (by omega)))
    · rw [List.length_map, ths_sum]
      exact v_check_things t1 t2
    have hS2 := ex_l e2 hS1
    refine q_asgL (el_lst ea_nil (Nat.zero_le _)) fun p H3 np e3 hp => ?_
    have f3 : H p = none := fresh_back (e1.trans e2) np
    refine q_forEnC (c := 1) (ev_var rfl) (ex_l e3 hS2) (fun i σ' H' => ∃ y2 y3 y4 y5 y6, σ' = [some (.ref a), some (.ref p), y2, y3, y4, y5, y6] ∧ Ex H H' ∧ H' p = some (.lst (vi (dueL ns i)))) ?_ ?_ ?_ ?_
    · intro H4 e4
      exact ⟨_, _, _, _, _, rfl, ((e1.trans e2).trans e3).trans e4, e4 _ _ hp⟩
    · rintro i σ' H' _ ⟨_, _, _, _, _, _, e, _⟩
      exact ex_l e hS
    · rintro i x σ' H' hx ⟨y2, y3, y4, y5, y6, rfl, e, hq⟩ H4 e4
      obtain ⟨m, rfl, hm, hg⟩ := vi_inv hx
      obtain ⟨m0, m1, m2⟩ := count_le hn hm t2
      have hlt := (List.getElem?_eq_some_iff.mp hm).1
      refine s_forR1 (ea_cons (ev_var rfl) ea_nil) (by omega) (fun t σ' H' => ∃ y4 y5 y6, σ' = [some (.ref a), some (.ref p), some (.int (1 + (i : Int))), some (.int m), y4, y5, y6] ∧ Ex H H' ∧ H' p = some (.lst (vi (addR (i + 1) (dueL ns i) t)))) ?_ ?_ ?_
      · intro H5 e5
        exact ⟨_, _, _, rfl, (e.trans e4).trans e5, e5 _ _ (e4 _ _ hq)⟩
      · rintro t σ'' H'' ht ⟨z4, z5, z6, rfl, e', hq'⟩
        have hlen := addR_le hn hm t2 ht
        refine q_asg (ev_len (ev_var rfl) (sq_of hq')) fun H5 e5 => ?_
        rw [List.length_map]
        refine q_ext (e5 _ _ hq') (ev_var rfl) (el_is (el_lcR2 (lo := 1) (n := 1 + (i : Int)) (fun _ => true) (fun j => V.int (((addR (i + 1) (dueL ns i) t).length : Int) + (1 + (j : Int)))) (ea_cons ev_c (ea_cons (ev_var rfl) ea_nil)) (by omega) (fun _ => rfl) (fun _ _ _ _ => et_yes) (fun j H6 e6 _ _ => ev_op (ev_var rfl) (ev_var rfl) rv_I0)) (given_ints _ fun j => ((addR (i + 1) (dueL ns i) t).length : Int) + (1 + (j : Int)))) (by simp only [List.length_map, List.length_range]; omega) fun H6 e6 => ?_
        refine s_app upd_same (ev_var rfl) (ev_var rfl) (by simp only [List.length_append, List.length_map, List.length_range]; omega) fun H7 e7 => ?_
        refine ⟨_, _, _, rfl, Ex.mut ((Ex.mut ((e'.trans e5).trans e6) f3).trans e7) f3, ?_⟩
        rw [upd_same]
        congr 2
        show _ = vi (addR (i + 1) (dueL ns i) t ++ blk (addR (i + 1) (dueL ns i) t).length (i + 1))
        unfold blk
        rw [show (1 + (i : Int) - 1).toNat = i + 1 - 1 by omega]
        unfold vi
        rw [List.map_append, List.map_append, List.map_singleton, List.append_assoc]
      · rintro σ'' H'' ⟨z4, z5, z6, rfl, e', hq'⟩
        refine ⟨_, _, _, _, _, rfl, e', ?_⟩
        rw [hq']
        show _ = some (HO.lst (vi (addR (i + 1) (dueL ns i) (ns.getD i 0).toNat)))
        rw [hg]
    · rintro σ' H' ⟨y2, y3, y4, y5, y6, rfl, e, hq⟩
      rw [List.length_map] at hq
      exact s_retU (eu_tupOf (ev_var rfl) (sq_of hq)) fun r H5 hr e5 h5 => q r H5 (fresh_back e hr) (e.trans e5) h5
/-! ### first_bar -/
def sp_first_bar (K : PySem.W.Frag) : Sp := fun vs H Q _ => ∃ (a : Addr) (r : List Int), vs = [.ref a] ∧ SqL K H a (vi r) ∧ 0 < r.length ∧ r.length ≤ 4000 ∧ Free r ∧ RetV .non H Q
theorem v_first_bar {K : PySem.W.Frag} {H : Hp} {a : Addr} {r : List Int} (h : SqL K H a (vi r)) (h0 : 0 < r.length) (h1 : r.length ≤ 4000) (fr : Free r) : SpV (sp_first_bar K) [.ref a] H .non := fun H1 e Q q E => ⟨a, r, rfl, ex_l e h, h0, h1, fr, q⟩
theorem ok_first_bar (T : Txt K mg) : FnG P w K mg base CX0 4 T.a_first_bar T.d_first_bar ["row"] (sp_first_bar K) := by
  refine okG T.F_first_bar sc_first_bar (fun vs H Q E h => ?_) (fun cdv A out s H vs Q E hr h => ?_)
  · obtain ⟨a, r, rfl, hS, h0, h1, fr, q⟩ := h
    rfl
  · obtain ⟨a, r, rfl, hS, h0, h1, fr, q⟩ := h
    refine ⟨_, (pss_cons (ps_for PassesOwn.never rfl (pi_enumC (c := 1) (by rfl) T.z_enumerate (pa_cons (callG (ok_new_numbers T) (hr.mono (by decide)) (by rfl) T.g_new_numbers T.F_new_numbers.kp (b_new_numbers T) .nil pass0 (pa_cons (pv 0) pa_nil)) pa_nil)) (pg_tup rfl (pgs_cons (pg_name (i := 1) sc_first_bar.nd rfl (.inl rfl)) (pgs_cons (pg_name (i := 2) sc_first_bar.nd rfl (.inl rfl)) pgs_nil)))
      (pss_cons (ps_if (pt_cmpR op_ne (pe_op op_mod (pv 2) (pv 1)) pe_int (nomark _))
        (pss_one (ps_ret (pe_tup (pa_cons (pv 1) (pa_cons pe_str pa_nil)))))
        pss_nil)
      (pss_one (ps_if (pt_cmpR op_lt (pv 2) pe_int (nomark _))
        (pss_one (ps_ret (pe_tup (pa_cons (pv 1) (pa_cons pe_str pa_nil)))))
        pss_nil))))
    (pss_one (ps_ret pe_non))), ?_⟩
    refine q_forNEnC (c := 1) (el_call (ea_cons (ev_var rfl) ea_nil) (l_new_numbers hS h0 h1)) (fun p i σ' H' => ∃ (y1 y2 : Option V), σ' = [some (.ref a), y1, y2] ∧ Ex H H' ∧ H' p = some (.lst (vi (newL r)))) ?_ ?_ ?_ ?_
    · intro p H1 _ e1 g1
      exact ⟨_, _, rfl, e1, g1⟩
    · rintro p i σ' H' _ ⟨y1, y2, rfl, e, g⟩
      exact sq_of g
    · rintro p i x σ' H' hx ⟨y1, y2, rfl, e, g⟩ H1 e1
      have hi : i < r.length := by
        have := (List.getElem?_eq_some_iff.mp hx).1
        rw [List.length_map, newL_length] at this
        exact this
      rw [getD_at (by rw [newL_length]; exact hi)] at hx
      cases hx
      obtain ⟨d, d0, ed⟩ := fr i hi
      rw [ed]
      have hd : 0 ≤ ((i + 1 : Nat) : Int) * d := Int.mul_nonneg (by omega) d0
      have e1i : (1 : Int) + (i : Int) = ((i + 1 : Nat) : Int) := by omega
      rw [e1i]
      refine q_when (b := false) (et_is (et_test (ev_op (ev_op (ev_var rfl) (ev_var rfl) (rv_I (show (0 : Int) < ((i + 1 : Nat) : Int) by omega))) ev_c (rv_ne rfl))) (by rw [Int.mul_emod_right]; rfl)) (fun h => nomatch h) fun _ H2 e2 => ?_
      refine s_when (b := false) (et_test (ev_op (ev_var rfl) ev_c (rv_b (decide_eq_false (by omega))))) (fun h => nomatch h) fun _ H3 e3 => ?_
      exact ⟨_, _, rfl, ((e.trans e1).trans e2).trans e3, e3 _ _ (e2 _ _ (e1 _ _ g))⟩
    · rintro p σ' H' ⟨y1, y2, rfl, e, g⟩
      exact s_ret ev_c fun H1 e1 => q H1 (e.trans e1)
/-! ### back_row -/
def sp_back_row (K : PySem.W.Frag) : Sp := fun vs H Q _ => ∃ (a : Addr) (ds : List Int) (m : Nat), vs = [.ref a, .int (m : Int)] ∧ SqT K H a (vi ds) ∧ Shf ds ∧ 1 ≤ m ∧ m ≤ 300 ∧ RetL (vi (up (backL ds m))) H Q
theorem l_back_row {K : PySem.W.Frag} {H : Hp} {a : Addr} {ds : List Int} {m : Nat} (h : SqT K H a (vi ds)) (s : Shf ds) (h1 : 1 ≤ m) (h2 : m ≤ 300) : SpL (sp_back_row K) [.ref a, .int (m : Int)] H (vi (up (backL ds m))) :=
  fun H1 e Q q E => ⟨a, ds, m, rfl, ex_t e h, s, h1, h2, q⟩
theorem ok_back_row (T : Txt K mg) : FnG P w K mg base CX0 4 T.a_back_row T.d_back_row ["shuffle", "many"] (sp_back_row K) := by
  refine okG T.F_back_row sc_back_row (fun vs H Q E h => ?_) (fun cdv A out s H vs Q E hr h => ?_)
  · obtain ⟨a, ds, m, rfl, hA, hs, m0, m1, q⟩ := h
    rfl
  · obtain ⟨a, ds, m, rfl, hA, hs, m0, m1, q⟩ := h
    refine ⟨_, (pss_cons (ps_set (i := 2) sc_back_row.nd rfl (.inr rfl) (callG (ok_lengths T) (hr.mono (by decide)) (by rfl) T.g_lengths T.F_lengths.kp (b_lengths T) .nil pass0 (pa_cons (pv 0) pa_nil)))
    (pss_cons (ps_expr (callG (ok_check_many T) (hr.mono (by decide)) (by rfl) T.g_check_many T.F_check_many.kp (b_check_many T) .nil pass0 (pa_cons (pv 1) pa_nil)))
    (pss_one (ps_ret (pe_lc (own := [("n", 3)]) (g := gName 3) rfl sc_back_row.nd (pi_range2 (by rfl) T.z_range (pa_cons pe_int (pa_cons (pe_op op_add (pv 1) pe_int) pa_nil))) (blkOk_by (own := [("n", 3)]) (N := ["shuffle", "many", "found", "n", "length"]) (sc := defScope s_back_row) (by decide +kernel)) (fun _ _ _ _ _ => (pg_name (i := 3) sc_back_row.nd rfl (Or.inr rfl))) (fun _ _ _ _ _ => pts_nil) (fun _ _ _ _ _ => (pe_callB (cr_sumK (K := K) rfl rfl) (by rfl) T.z_sum bt_sum (pa_cons (pe_lc (own := [("length", 4)]) (g := gName 4) rfl sc_back_row.nd (pi_listK (K := K) rfl (pv 2)) (blkOk_by (own := [("length", 4)]) (N := ["shuffle", "many", "found", "n", "length"]) (sc := _) (by change blkC _ { kind := .function, names := [(".0", .local), ("n", .cell), ("sum", .globalImplicit), ("found", .cell)], isGenerator := false, isCoroutine := false } _ _ = true; decide +kernel)) (fun _ _ _ _ _ => (pg_name (i := 4) sc_back_row.nd rfl (Or.inl rfl))) (fun _ _ _ _ _ => (pts_one (pt_cmpR op_eq (pe_op op_mod (pv 3) (pv 4)) pe_int (nomark _)))) (fun _ _ _ _ _ => (pv 4))) pa_nil)))))))), ?_⟩
    have h3 := hs.2.1
    have rg := rings_of hs
    have hrl := rings_length rg
    have hll := lens_length ds
    refine q_asgL (el_call (ea_cons (ev_var rfl) ea_nil) (l_lengths hA hs)) fun p H1 hp e1 h1 => ?_
    refine q_drop (ev_call (ea_cons (ev_var rfl) ea_nil) (v_check_many (by omega) (by omega))) fun H2 e2 => ?_
    refine s_retL (el_is (el_lcR2 (lo := 1) (n := (m : Int) + 1) (fun _ => true) (fun i => V.int ((cnt ds (i + 1) : Nat) : Int)) (ea_cons ev_c (ea_cons (ev_op (ev_var rfl) ev_c rv_I0) ea_nil)) (by omega) (fun _ => rfl) (fun _ _ _ _ => et_yes) ?_) ?_) fun p H3 hp e3 h3 => q p H3 (fresh_back (e1.trans e2) hp) ((e1.trans e2).trans e3) h3
    · intro i H3 e3 hi _
      refine ev_is (ev_sumN (ns := (lensL ds).filter fun l => decide ((1 + (i : Int)) % l = 0)) (el_is (el_lcL (fun j => decide ((1 + (i : Int)) % (lensL ds).getD j 0 = 0)) (fun j => V.int ((lensL ds).getD j 0)) (ev_var rfl) (sq_of (e3 _ _ (e2 _ _ h1))) (by rw [List.length_map]; omega) (fun _ => rfl) ?_ ?_) ?_)) ?_
      · intro j x H4 e4 hx
        obtain ⟨y, rfl, hy, hg⟩ := vi_inv hx
        have := lens_mem rg (List.mem_of_getElem? hy)
        rw [hg]
        exact et_is (et_test (ev_op (ev_op (ev_var rfl) (ev_var rfl) (rv_I (show (0 : Int) < y by omega))) ev_c (rv_eq rfl))) (by simp)
      · intro j x H4 e4 hx _
        obtain ⟨y, rfl, hy, hg⟩ := vi_inv hx
        rw [hg]
        exact ev_var rfl
      · rw [List.length_map]
        exact given_filter (lensL ds) fun l => decide ((1 + (i : Int)) % l = 0)
      · have := back_cnt hs rg (i + 1)
        rw [show ((i + 1 : Nat) : Int) = 1 + (i : Int) by omega] at this
        rw [this]
    · rw [show ((m : Int) + 1 - 1).toNat = m by omega, given_ints]
      unfold backL up
      rw [List.map_map]
      rfl
/-! ### lead -/
def sp_lead (K : PySem.W.Frag) : Sp := fun vs H Q _ => ∃ (a b : Addr) (ds es : List Int), vs = [.ref a, .ref b] ∧ SqT K H a (vi ds) ∧ SqT K H b (vi es) ∧ Shf ds ∧ Shf es ∧ RetP (LeadV ds es) H Q
theorem p_lead {K : PySem.W.Frag} {H : Hp} {a b : Addr} {ds es : List Int} (hA : SqT K H a (vi ds)) (hB : SqT K H b (vi es)) (hd : Shf ds) (he : Shf es) : SpP (sp_lead K) [.ref a, .ref b] H (LeadV ds es) := fun H1 e Q q E => ⟨a, b, ds, es, rfl, ex_t e hA, ex_t e hB, hd, he, q⟩
theorem ok_lead (T : Txt K mg) : FnG P w K mg base CX0 4 T.a_lead T.d_lead ["one", "two"] (sp_lead K) := by
  refine okG T.F_lead sc_lead (fun vs H Q E h => ?_) (fun cdv A out s H vs Q E hr h => ?_)
  · obtain ⟨a, b, ds, es, rfl, hA, hB, hd, he, q⟩ := h
    rfl
  · obtain ⟨a, b, ds, es, rfl, hA, hB, hd, he, q⟩ := h
    refine ⟨_, (pss_cons (ps_if (pt_cmpR (op_neDK (K := K) rfl hr.rm.units) (callG (ok_lengths T) (hr.mono (by decide)) (by rfl) T.g_lengths T.F_lengths.kp (b_lengths T) .nil pass0 (pa_cons (pv 0) pa_nil)) (callG (ok_lengths T) (hr.mono (by decide)) (by rfl) T.g_lengths T.F_lengths.kp (b_lengths T) .nil pass0 (pa_cons (pv 1) pa_nil)) (nomark _))
      (pss_one (ps_ret pe_non))
      pss_nil)
    (pss_cons (ps_set (i := 2) sc_lead.nd rfl (.inl rfl) (pe_op op_rep (pe_lst (pa_cons pe_int pa_nil)) (pe_callB (call_lenK (K := K) rfl) (by rfl) T.z_len bt_len (pa_cons (pv 0) pa_nil))))
    (pss_cons (ps_set (i := 3) sc_lead.nd rfl (.inl rfl) (pe_sortLen (K := K) rfl rfl (by rfl) T.z_sorted (by rfl) T.z_len (callG (ok_rings_in T) (hr.mono (by decide)) (by rfl) T.g_rings_in T.F_rings_in.kp (b_rings_in T) .nil pass0 (pa_cons (pv 0) pa_nil))))
    (pss_cons (ps_set (i := 4) sc_lead.nd rfl (.inl rfl) (pe_sortLen (K := K) rfl rfl (by rfl) T.z_sorted (by rfl) T.z_len (callG (ok_rings_in T) (hr.mono (by decide)) (by rfl) T.g_rings_in T.F_rings_in.kp (b_rings_in T) .nil pass0 (pa_cons (pv 1) pa_nil))))
    (pss_cons (ps_for PassesOwn.never rfl (pi_zip (by rfl) T.z_zip (pa_cons (pv 3) (pa_cons (pv 4) pa_nil))) (pg_tup rfl (pgs_cons (pg_name (i := 5) sc_lead.nd rfl (.inl rfl)) (pgs_cons (pg_name (i := 6) sc_lead.nd rfl (.inl rfl)) pgs_nil)))
      (pss_one (ps_for PassesOwn.never rfl (pi_zip (by rfl) T.z_zip (pa_cons (pv 5) (pa_cons (pv 6) pa_nil))) (pg_tup rfl (pgs_cons (pg_name (i := 7) sc_lead.nd rfl (.inl rfl)) (pgs_cons (pg_name (i := 8) sc_lead.nd rfl (.inl rfl)) pgs_nil)))
        (pss_one (ps_asg (pv 8) (pg_sub (pv 2) (pv 7) set_list))))))
    (pss_one (ps_ret (pe_callTy (call_tupleK (K := K) rfl) (by rfl) T.z_tuple bt_tuple (pa_cons (pv 2) pa_nil))))))))), ?_⟩
    have h3 := hd.2.1
    have hl : ((vi ds).length : Int) = (ds.length : Int) := by rw [List.length_map]
    refine q_when (b := decide (¬ lensL ds = lensL es)) (et_is (et_test (ev_neLL (el_call (ea_cons (ev_var rfl) ea_nil) (l_lengths hA hd)) (el_call (ea_cons (ev_var rfl) ea_nil) (l_lengths hB he)))) (by simp)) (fun hb H1 e1 => ?_) (fun hb H1 e1 => ?_)
    · have c := of_decide_eq_true hb
      exact s_ret (v := .non) ev_c fun H2 e2 => q .non H2 (e1.trans e2) (by unfold LeadV; rw [if_neg c])
    have c : lensL ds = lensL es := Decidable.of_not_not (of_decide_eq_false hb)
    have lel : es.length = ds.length := by
      have a := lens_total hd
      have b := lens_total he
      rw [c, b] at a
      omega
    refine q_asgL (xs := vi (List.replicate ds.length 0)) (el_is (el_rep (n := (ds.length : Int)) (el_lst (ea_cons ev_c ea_nil) (by show 1 ≤ 100000; decide)) (fun H2 e2 => ev_is (ev_lenT (ev_var rfl) (ex_t (e1.trans e2) hA)) (by rw [hl])) (by omega) (by show 1 * _ ≤ _; omega) (by omega)) (by rw [Int.toNat_natCast]; exact flat_rep _ _)) fun pf H2 f2 e2 h2 => ?_
    have e12 := e1.trans e2
    have pfn : H pf = none := fresh_back e1 f2
    refine q_asgSort (en_call (ea_cons (ev_var rfl) ea_nil) (n_rings_in (ex_t e12 hA) hd)) fun ps qs R H3 f3 e3 g3 n3 pR wR fr3 => ?_
    have e13 := e12.trans e3
    refine q_asgSort (en_call (ea_cons (ev_var rfl) ea_nil) (n_rings_in (ex_t e13 hB) he)) fun pt qt S H4 f4 e4 g4 n4 pS wS fr4 => ?_
    have e14 := e13.trans e4
    have hm : R.map List.length = S.map List.length := up_inj ((lens_of pR wR).trans (c.trans (lens_of pS wS).symm))
    have hRS : R.length = S.length := by
      have := congrArg List.length hm
      rw [List.length_map, List.length_map] at this
      exact this
    have rd := rings_of hd
    have ndR : R.flatten.Nodup := pR.flatten.nodup_iff.mpr rd.nd
    have ltR : ∀ x ∈ R.flatten, x < ds.length := fun x hx => rd.lt x (pR.flatten.mem_iff.mp hx)
    have h4f := e4 _ _ (e3 _ _ h2)
    have g34 := e4 _ _ g3
    have n34 := n3.ex e4
    have nes : ps ≠ pf := ne_of_none' f3 h2
    have net : pt ≠ pf := ne_of_none' f4 (e3 _ _ h2)
    have neq : ∀ q ∈ qs, q ≠ pf := fun q hq z => by
      have := fr3 q hq
      rw [z, h2] at this
      cases this
    have neq' : ∀ q ∈ qt, q ≠ pf := fun q hq z => by
      have := fr4 q hq
      rw [z, e3 _ _ h2] at this
      cases this
    refine q_forZip (a := ps) (b := pt) (xs := qs.map V.ref) (ys := qt.map V.ref) (ea_cons (ev_var rfl) (ea_cons (ev_var rfl) ea_nil)) (sq_of g34) (sq_of g4) (by have := n34.1; have := n4.1; rw [List.length_map, List.length_map]; omega)
      (fun i σ' H' => ∃ (F : List Int) (y5 y6 y7 y8 : Option V), σ' = [some (.ref a), some (.ref b), some (.ref pf), some (.ref ps), some (.ref pt), y5, y6, y7, y8] ∧ Ex H H' ∧ H' pf = some (.lst (vi F)) ∧ H' ps = some (.lst (qs.map V.ref)) ∧ H' pt = some (.lst (qt.map V.ref)) ∧ Nest H' qs R ∧ Nest H' qt S ∧ LInv R.flatten S.flatten ds.length F (R.take i).flatten.length) ?_ ?_ ?_ ?_
    · intro H5 e5
      exact ⟨_, _, _, _, _, rfl, e14.trans e5, e5 _ _ h4f, e5 _ _ g34, e5 _ _ g4, n34.ex e5, n4.ex e5, LInv.zero _ _ _⟩
    · rintro i σ' H' _ ⟨F, y5, y6, y7, y8, rfl, e, gf, gs, gt, ns, nt, inv⟩
      exact ⟨sq_of gs, sq_of gt⟩
    · rintro i x y σ' H' H'' hx hy ⟨F, y5, y6, y7, y8, rfl, e, gf, gs, gt, ns, nt, inv⟩ e''
      obtain ⟨q1, hq1, rfl⟩ := map_at hx
      obtain ⟨q2, hq2, rfl⟩ := map_at hy
      obtain ⟨r, hr, gr⟩ := nest_at ns hq1
      obtain ⟨s, hs, gs2⟩ := nest_at nt hq2
      have rs : r.length = s.length := by
        have := congrArg (fun l => l[i]?) hm
        simp only [List.getElem?_map, hr, hs, Option.map_some] at this
        exact Option.some.inj this
      refine s_forZip (a := q1) (b := q2) (xs := vi (up r)) (ys := vi (up s)) (ea_cons (ev_var rfl) (ea_cons (ev_var rfl) ea_nil)) (sq_of (e'' _ _ gr)) (sq_of (e'' _ _ gs2)) (by rw [List.length_map, List.length_map, up_length, up_length]; exact rs)
        (fun j σ' H' => ∃ (F : List Int) (y7 y8 : Option V), σ' = [some (.ref a), some (.ref b), some (.ref pf), some (.ref ps), some (.ref pt), some (.ref q1), some (.ref q2), y7, y8] ∧ Ex H H' ∧ H' pf = some (.lst (vi F)) ∧ H' ps = some (.lst (qs.map V.ref)) ∧ H' pt = some (.lst (qt.map V.ref)) ∧ Nest H' qs R ∧ Nest H' qt S ∧ LInv R.flatten S.flatten ds.length F ((R.take i).flatten.length + j)) ?_ ?_ ?_ ?_
      · intro H5 e5
        have e6 := e''.trans e5
        exact ⟨F, _, _, rfl, e.trans e6, e6 _ _ gf, e6 _ _ gs, e6 _ _ gt, ns.ex e6, nt.ex e6, inv⟩
      · rintro j σ'' H5 _ ⟨F, y7, y8, rfl, e, gf, gs, gt, ns, nt, inv⟩
        exact ⟨sq_of (ns.2 i q1 r hq1 hr), sq_of (nt.2 i q2 s hq2 hs)⟩
      · rintro j x y σ'' H5 H6 hx hy ⟨F, y7, y8, rfl, e, gf, gs, gt, ns, nt, inv⟩ e6
        obtain ⟨k1, hk1, rfl⟩ := upV_at hx
        obtain ⟨k2, hk2, rfl⟩ := upV_at hy
        have f1 := flat_at hr hk1
        have f2' := flat_at hs hk2
        rw [← off_eq hm i] at f2'
        have lt1 := ltR k1 (List.mem_of_getElem? f1)
        refine s_setL (v := .int (k2 : Int)) (e6 _ _ gf) (ev_var rfl) (ev_var rfl) (ev_var rfl) (by rw [List.length_map, inv.1]; exact lt1) fun H7 e7 => ?_
        have e67 := e6.trans e7
        refine ⟨F.set k1 (k2 : Int), _, _, rfl, (e.trans e67).mut pfn, ?_, ?_, ?_, (ns.ex e67).upd neq, (nt.ex e67).upd neq', inv.step ndR f1 f2' lt1⟩
        · rw [upd_same, vi_set]
        · rw [upd_ne nes]
          exact e67 _ _ gs
        · rw [upd_ne net]
          exact e67 _ _ gt
      · rintro σ'' H5 ⟨F, y7, y8, rfl, e, gf, gs, gt, ns, nt, inv⟩
        rw [List.length_map, up_length, ← off_succ hr] at inv
        exact ⟨F, _, _, _, _, rfl, e, gf, gs, gt, ns, nt, inv⟩
    · rintro σ' H' ⟨F, y5, y6, y7, y8, rfl, e, gf, gs, gt, ns, nt, inv⟩
      rw [List.length_map, ns.1, List.take_length] at inv
      have led := led_of hd he lel pR pS hm inv
      exact s_retU (eu_tupOf (ev_var rfl) (sq_of gf)) fun p H5 hp e5 g5 => q _ H5 (e.trans e5) (by
        unfold LeadV
        rw [if_pos c]
        exact ⟨p, F, rfl, g5, led⟩)
/-! ### rings -/
def sp_rings (K : PySem.W.Frag) : Sp := fun vs H Q _ => ∃ (a : Addr) (r : List Int), vs = [.ref a] ∧ SqL K H a (vi r) ∧ 0 < r.length ∧ r.length ≤ 4000 ∧ Free r ∧ RetL (vi (ringsR r)) H Q
theorem l_rings {K : PySem.W.Frag} {H : Hp} {a : Addr} {r : List Int} (h : SqL K H a (vi r)) (h0 : 0 < r.length) (h1 : r.length ≤ 4000) (fr : Free r) : SpL (sp_rings K) [.ref a] H (vi (ringsR r)) := fun H1 e Q q E => ⟨a, r, rfl, ex_l e h, h0, h1, fr, q⟩
theorem ok_rings (T : Txt K mg) : FnG P w K mg base CX0 5 T.a_rings T.d_rings ["row"] (sp_rings K) := by
  refine okG T.F_rings sc_rings (fun vs H Q E h => ?_) (fun cdv A out s H vs Q E hr h => ?_)
  · obtain ⟨a, r, rfl, hS, h0, h1, fr, q⟩ := h
    rfl
  · obtain ⟨a, r, rfl, hS, h0, h1, fr, q⟩ := h
    refine ⟨_, (pss_cons (ps_set (i := 1) sc_rings.nd rfl (.inl rfl) (callG (ok_first_bar T) (hr.mono (by decide)) (by rfl) T.g_first_bar T.F_first_bar.kp (b_first_bar T) .nil pass0 (pa_cons (pv 0) pa_nil)))
    (pss_cons (ps_if (pt_cmpR op_notN (pv 1) pe_non (nomark _))
      (pss_one ps_never)
      pss_nil)
    (pss_one (ps_ret (pe_lc (own := [("n", 2), ("new", 3)]) (g := g2 K 2 3) rfl sc_rings.nd (pi_enumC (c := 1) (by rfl) T.z_enumerate (pa_cons (callG (ok_new_numbers T) (hr.mono (by decide)) (by rfl) T.g_new_numbers T.F_new_numbers.kp (b_new_numbers T) .nil pass0 (pa_cons (pv 0) pa_nil)) pa_nil)) (blkOk_by (own := [("n", 2), ("new", 3)]) (N := ["row", "bar", "n", "new"]) (sc := defScope s_rings) (by decide +kernel)) (fun _ _ _ _ _ => (pg_tup rfl (pgs_cons (pg_name (i := 2) sc_rings.nd rfl (Or.inl rfl)) (pgs_cons (pg_name (i := 3) sc_rings.nd rfl (Or.inl rfl)) pgs_nil)))) (fun _ _ _ _ _ => pts_nil) (fun _ _ _ _ _ => (pe_op op_fdivW (pv 3) (pv 2)))))))), ?_⟩
    refine q_asg (ev_call (ea_cons (ev_var rfl) ea_nil) (v_first_bar hS h0 h1 fr)) fun H1 e1 => ?_
    refine q_when (b := false) (et_test (ev_op (ev_var rfl) ev_c rv_notN)) (fun h => nomatch h) fun _ H2 e2 => ?_
    refine s_retL (el_is (el_lcNEnC (c := 1) (fun _ => true) (fun i => V.int ((newL r).getD i 0 / ((i + 1 : Nat) : Int))) (el_call (ea_cons (ev_var rfl) ea_nil) (l_new_numbers (ex_l (e1.trans e2) hS) h0 h1)) (by rw [List.length_map, newL_length]; omega) (fun _ _ => rfl) (fun _ _ _ _ _ => et_yes) ?_) ?_) fun p H3 hp e3 h3 => q p H3 (fresh_back (e1.trans e2) hp) ((e1.trans e2).trans e3) h3
    · intro i x H3 e3 hx _
      have hi : i < r.length := by
        have := (List.getElem?_eq_some_iff.mp hx).1
        rw [List.length_map, newL_length] at this
        exact this
      rw [getD_at (by rw [newL_length]; exact hi)] at hx
      cases hx
      exact ev_is (ev_op (ev_var rfl) (ev_var rfl) (rv_I (cdw _ (show (0 : Int) < 1 + (i : Int) by omega) (by omega)))) (by rw [show (1 : Int) + (i : Int) = ((i + 1 : Nat) : Int) by omega])
    · rw [List.length_map, newL_length]
      exact given_tab _ _
/-! ### _law_shuffles_right -/
def sp_law_shuffles_right (K : PySem.W.Frag) : Sp := fun vs H Q _ => ∃ (a : Addr) (n : Nat), vs = [.ref a] ∧ Well H a n ∧ n + 1000 ≤ 2 ^ 50 ∧ ∀ H2, But a H H2 → Well H2 a (n + 1000) → Q (.bl true) H2
theorem ok_law_shuffles_right (T : Txt K mg) : FnG P w K mg base CX0 5 T.a_law_shuffles_right T.d_law_shuffles_right ["flask"] (sp_law_shuffles_right K) := by
  refine okG T.F_law_shuffles_right sc_law_shuffles_right (fun vs H Q E h => ?_) (fun cdv A out s H vs Q E hr h => ?_)
  · obtain ⟨a, n, rfl, hw, hn, q⟩ := h
    rfl
  · obtain ⟨a, n, rfl, hw, hn, q⟩ := h
    refine ⟨_, (pss_cons (ps_set (i := 1) sc_law_shuffles_right.nd rfl (.inl rfl) (pe_lst pa_nil))
    (pss_cons (ps_for PassesOwn.never rfl (pi_range1 (by rfl) T.z_range (pa_cons pe_int pa_nil)) (pg_name (i := 2) sc_law_shuffles_right.nd rfl (.inl rfl))
      (pss_cons (ps_setLc (i := 3) (own := [("n", 14)]) (g := gName 14) rfl sc_law_shuffles_right.nd rfl rfl (sw_true rfl rfl rfl (by decide +kernel)) (pi_range1 (by rfl) T.z_range (pa_cons pe_int pa_nil)) (blkOk_by (own := [("n", 14)]) (N := ["flask", "some", "turn", "counts", "shuffles", "wide", "due", "pair", "mixed", "times", "gone", "fallen", "way", "made", "n", "a", "b", "place"]) (sc := defScope s_law_shuffles_right) (by decide +kernel)) (fun _ _ _ _ _ => (pg_name (i := 14) sc_law_shuffles_right.nd rfl (Or.inl rfl))) (fun _ _ _ _ _ => pts_nil) (fun _ _ _ _ _ => (pe_op op_mul (pe_callTy call_int1 (by rfl) T.z_int bt_int (pa_cons (pe_cmpR op_eq (callG (ok_law_sip T) (hr.mono (by decide)) (by rfl) T.g_law_sip T.F_law_sip.kp (b_law_sip T) .nil pass0 (pa_cons (pv 0) (pa_cons pe_int pa_nil))) pe_int (nomark _)) pa_nil)) (pe_op op_add pe_int (callG (ok_law_sip T) (hr.mono (by decide)) (by rfl) T.g_law_sip T.F_law_sip.kp (b_law_sip T) .nil pass0 (pa_cons (pv 0) (pa_cons pe_int pa_nil)))))))
      (pss_one (ps_expr (pe_bm PySem.F.plainAttrs_list PySem.F.slot_list_append PySem.F.type_list_append mt_append (pv 1) (pa_cons (pe_ifExp (pt_cmpR op_gt (pe_callB (cr_sumK (K := K) rfl rfl) (by rfl) T.z_sum bt_sum (pa_cons (pv 3) pa_nil)) pe_int (nomark _)) (pv 3) (pe_lst (pa_cons pe_int (pa_cons pe_int (pa_cons pe_int (pa_cons pe_int pa_nil)))))) pa_nil))))))
    (pss_cons (ps_setLc (i := 4) (own := [("counts", 3)]) (g := gName 3) rfl sc_law_shuffles_right.nd rfl rfl (sw_true rfl rfl rfl (by decide +kernel)) (pi_listK (K := K) rfl (pv 1)) (blkOk_by (own := [("counts", 3)]) (N := ["flask", "some", "turn", "counts", "shuffles", "wide", "due", "pair", "mixed", "times", "gone", "fallen", "way", "made", "n", "a", "b", "place"]) (sc := defScope s_law_shuffles_right) (by decide +kernel)) (fun _ _ _ _ _ => (pg_name (i := 3) sc_law_shuffles_right.nd rfl (Or.inl rfl))) (fun _ _ _ _ _ => pts_nil) (fun _ _ _ _ _ => (callG (ok_law_places T) (hr.mono (by decide)) (by rfl) T.g_law_places T.F_law_places.kp (b_law_places T) .nil pass0 (pa_cons (pv 0) (pa_cons (pv 3) pa_nil)))))
    (pss_cons (ps_if (pt_cmpR op_gt (pe_op op_mul (pe_callB (call_lenK (K := K) rfl) (by rfl) T.z_len bt_len (pa_cons (pe_ix (ix_listK (K := K) rfl) (pv 4) pe_int (fun _ _ => rfl)) pa_nil)) (pe_callB (call_lenK (K := K) rfl) (by rfl) T.z_len bt_len (pa_cons (pe_ix (ix_listK (K := K) rfl) (pv 4) pe_int (fun _ _ => rfl)) pa_nil))) pe_int (nomark _))
      (pss_one (ps_ret pe_bl))
      pss_nil)
    (pss_cons (ps_setLc (i := 5) (own := [("counts", 3)]) (g := gName 3) rfl sc_law_shuffles_right.nd rfl rfl (sw_true rfl rfl rfl (by decide +kernel)) (pi_listK (K := K) rfl (pv 1)) (blkOk_by (own := [("counts", 3)]) (N := ["flask", "some", "turn", "counts", "shuffles", "wide", "due", "pair", "mixed", "times", "gone", "fallen", "way", "made", "n", "a", "b", "place"]) (sc := defScope s_law_shuffles_right) (by decide +kernel)) (fun _ _ _ _ _ => (pg_name (i := 3) sc_law_shuffles_right.nd rfl (Or.inl rfl))) (fun _ _ _ _ _ => pts_nil) (fun _ _ _ _ _ => (pe_op op_cat (pv 3) (pe_op op_rep (pe_lst (pa_cons pe_int pa_nil)) pe_int))))
    (pss_cons (ps_par (i := 6) (j := 7) (by rfl) sc_law_shuffles_right.nd rfl rfl (by decide) rfl rfl (pa_cons (callG (ok_law_paired T) (hr.mono (by decide)) (by rfl) T.g_law_paired T.F_law_paired.kp (b_law_paired T) .nil pass0 (pa_cons (pe_ix (ix_listK (K := K) rfl) (pv 5) pe_int (fun _ _ => rfl)) (pa_cons (pe_ix (ix_listK (K := K) rfl) (pv 5) pe_int (fun _ _ => rfl)) (pa_cons pe_int pa_nil)))) (pa_cons (callG (ok_paired T) (hr.mono (by decide)) (by rfl) T.g_paired T.F_paired.kp (b_paired T) .nil pass0 (pa_cons (pe_ix (ix_listK (K := K) rfl) (pv 4) pe_int (fun _ _ => rfl)) (pa_cons (pe_ix (ix_listK (K := K) rfl) (pv 4) pe_int (fun _ _ => rfl)) pa_nil))) pa_nil)) (by rfl))
    (pss_cons (ps_if (PW.pt (pw_or (pt_cmpR (op_neDK (K := K) rfl hr.rm.units) (callG (ok_lengths T) (hr.mono (by decide)) (by rfl) T.g_lengths T.F_lengths.kp (b_lengths T) .nil pass0 (pa_cons (pv 7) pa_nil)) (callG (ok_law_told_lengths T) (hr.mono (by decide)) (by rfl) T.g_law_told_lengths T.F_law_told_lengths.kp (b_law_told_lengths T) .nil pass0 (pa_cons (pv 6) pa_nil)) (nomark _)) (pw_or1 (pt_cmpR (op_neDK (K := K) rfl hr.rm.units) (callG (ok_back_row T) (hr.mono (by decide)) (by rfl) T.g_back_row T.F_back_row.kp (b_back_row T) .nil pass0 (pa_cons (pv 7) (pa_cons pe_int pa_nil))) (callG (ok_row_of T) (hr.mono (by decide)) (by rfl) T.g_row_of T.F_row_of.kp (b_row_of T) .nil pass0 (pa_cons (pv 6) pa_nil)) (nomark _)))))
      (pss_one (ps_ret pe_bl))
      pss_nil)
    (pss_cons (ps_setLc (i := 8) (own := [("a", 15), ("b", 16)]) (g := g2 K 15 16) rfl sc_law_shuffles_right.nd rfl rfl (sw_true rfl rfl rfl (by decide +kernel)) (pi_zip (by rfl) T.z_zip (pa_cons (pe_ix (ix_listK (K := K) rfl) (pv 1) pe_int (fun _ _ => rfl)) (pa_cons (pe_ix (ix_listK (K := K) rfl) (pv 1) pe_int (fun _ _ => rfl)) pa_nil))) (blkOk_by (own := [("a", 15), ("b", 16)]) (N := ["flask", "some", "turn", "counts", "shuffles", "wide", "due", "pair", "mixed", "times", "gone", "fallen", "way", "made", "n", "a", "b", "place"]) (sc := defScope s_law_shuffles_right) (by decide +kernel)) (fun _ _ _ _ _ => (pg_tup rfl (pgs_cons (pg_name (i := 15) sc_law_shuffles_right.nd rfl (Or.inl rfl)) (pgs_cons (pg_name (i := 16) sc_law_shuffles_right.nd rfl (Or.inl rfl)) pgs_nil)))) (fun _ _ _ _ _ => pts_nil) (fun _ _ _ _ _ => (pe_op op_add (pv 15) (pv 16))))
    (pss_cons (ps_if (pt_cmpR (op_neDK (K := K) rfl hr.rm.units) (callG (ok_lengths T) (hr.mono (by decide)) (by rfl) T.g_lengths T.F_lengths.kp (b_lengths T) .nil pass0 (pa_cons (callG (ok_beside T) (hr.mono (by decide)) (by rfl) T.g_beside T.F_beside.kp (b_beside T) .nil pass0 (pa_cons (pe_ix (ix_listK (K := K) rfl) (pv 4) pe_int (fun _ _ => rfl)) (pa_cons (pe_ix (ix_listK (K := K) rfl) (pv 4) pe_int (fun _ _ => rfl)) pa_nil))) pa_nil)) (callG (ok_law_told_lengths T) (hr.mono (by decide)) (by rfl) T.g_law_told_lengths T.F_law_told_lengths.kp (b_law_told_lengths T) .nil pass0 (pa_cons (pv 8) pa_nil)) (nomark _))
      (pss_one (ps_ret pe_bl))
      pss_nil)
    (pss_cons (ps_set (i := 9) sc_law_shuffles_right.nd rfl (.inl rfl) (pe_op op_sub (callG (ok_law_sip T) (hr.mono (by decide)) (by rfl) T.g_law_sip T.F_law_sip.kp (b_law_sip T) .nil pass0 (pa_cons (pv 0) (pa_cons pe_int pa_nil))) pe_int))
    (pss_cons (ps_set (i := 10) sc_law_shuffles_right.nd rfl (.inl rfl) (callG (ok_turned T) (hr.mono (by decide)) (by rfl) T.g_turned T.F_turned.kp (b_turned T) .nil pass0 (pa_cons (pe_ix (ix_listK (K := K) rfl) (pv 4) pe_int (fun _ _ => rfl)) (pa_cons (pv 9) pa_nil))))
    (pss_cons (ps_set (i := 11) sc_law_shuffles_right.nd rfl (.inl rfl) (pe_ifExp (pt_cmpR op_ne (pv 9) pe_int (nomark _)) (callG (ok_law_fallen T) (hr.mono (by decide)) (by rfl) T.g_law_fallen T.F_law_fallen.kp (b_law_fallen T) .nil pass0 (pa_cons (pe_ix (ix_listK (K := K) rfl) (pv 1) pe_int (fun _ _ => rfl)) (pa_cons (pe_callB call_abs (by rfl) T.z_abs bt_abs (pa_cons (pv 9) pa_nil)) (pa_cons pe_int pa_nil)))) (pe_lst (pa_cons (pe_callB (call_lenK (K := K) rfl) (by rfl) T.z_len bt_len (pa_cons (pv 10) pa_nil)) (pa_cons pe_int (pa_cons pe_int (pa_cons pe_int pa_nil)))))))
    (pss_cons (ps_if (pt_cmpR (op_neDK (K := K) rfl hr.rm.units) (callG (ok_lengths T) (hr.mono (by decide)) (by rfl) T.g_lengths T.F_lengths.kp (b_lengths T) .nil pass0 (pa_cons (pv 10) pa_nil)) (callG (ok_law_told_lengths T) (hr.mono (by decide)) (by rfl) T.g_law_told_lengths T.F_law_told_lengths.kp (b_law_told_lengths T) .nil pass0 (pa_cons (pv 11) pa_nil)) (nomark _))
      (pss_one (ps_ret pe_bl))
      pss_nil)
    (pss_cons (ps_set (i := 12) sc_law_shuffles_right.nd rfl (.inr rfl) (callG (ok_lead T) (hr.mono (by decide)) (by rfl) T.g_lead T.F_lead.kp (b_lead T) .nil pass0 (pa_cons (pv 10) (pa_cons (callG (ok_shuffle_of T) (hr.mono (by decide)) (by rfl) T.g_shuffle_of T.F_shuffle_of.kp (b_shuffle_of T) .nil pass0 (pa_cons (pv 11) pa_nil)) pa_nil))))
    (pss_cons (ps_if (PW.pt (pw_or (pt_cmpR op_isN (pv 12) pe_non (nomark _)) (pw_or1 (pt_cmpR (op_neDK (K := K) rfl hr.rm.units) (pe_callB cr_sortedTup (by rfl) T.z_sorted bt_sorted (pa_cons (pv 12) pa_nil)) (pe_listRg rfl (by rfl) T.z_list (prg_1 (by rfl) T.z_range (pe_callB (call_lenK (K := K) rfl) (by rfl) T.z_len bt_len (pa_cons (pv 10) pa_nil)))) (nomark _)))))
      (pss_one (ps_ret pe_bl))
      pss_nil)
    (pss_cons (ps_set (i := 13) sc_law_shuffles_right.nd rfl (.inr rfl) (callG (ok_shuffle_of T) (hr.mono (by decide)) (by rfl) T.g_shuffle_of T.F_shuffle_of.kp (b_shuffle_of T) .nil pass0 (pa_cons (pv 11) pa_nil)))
    (pss_one (ps_ret (pe_cmpR (op_eqDK (K := K) rfl hr.rm.units) (pe_lc (own := [("place", 17)]) (g := gName 17) rfl sc_law_shuffles_right.nd (pi_range1 (by rfl) T.z_range (pa_cons (pe_callB (call_lenK (K := K) rfl) (by rfl) T.z_len bt_len (pa_cons (pv 10) pa_nil)) pa_nil)) (blkOk_by (own := [("place", 17)]) (N := ["flask", "some", "turn", "counts", "shuffles", "wide", "due", "pair", "mixed", "times", "gone", "fallen", "way", "made", "n", "a", "b", "place"]) (sc := defScope s_law_shuffles_right) (by decide +kernel)) (fun _ _ _ _ _ => (pg_name (i := 17) sc_law_shuffles_right.nd rfl (Or.inl rfl))) (fun _ _ _ _ _ => pts_nil) (fun _ _ _ _ _ => (pe_ix (ix_tupK (K := K) rfl) (pv 13) (pe_ix (ix_tupK (K := K) rfl) (pv 12) (pv 17) (fun _ _ => rfl)) (fun _ _ => rfl)))) (pe_lc (own := [("place", 17)]) (g := gName 17) rfl sc_law_shuffles_right.nd (pi_tupK (K := K) rfl (pv 10)) (blkOk_by (own := [("place", 17)]) (N := ["flask", "some", "turn", "counts", "shuffles", "wide", "due", "pair", "mixed", "times", "gone", "fallen", "way", "made", "n", "a", "b", "place"]) (sc := defScope s_law_shuffles_right) (by decide +kernel)) (fun _ _ _ _ _ => (pg_name (i := 17) sc_law_shuffles_right.nd rfl (Or.inl rfl))) (fun _ _ _ _ _ => pts_nil) (fun _ _ _ _ _ => (pe_ix (ix_tupK (K := K) rfl) (pv 12) (pv 17) (fun _ _ => rfl)))) (nomark _)))))))))))))))))))), ?_⟩
    obtain ⟨us, ga⟩ : ∃ us, H a = some (.lst us) := by
      obtain ⟨x, y, c', q1, q2⟩ := hw
      exact ⟨_, q1⟩
    refine q_asgL (el_lst ea_nil (Nat.zero_le _)) fun ps H0 fs e0 g0 => ?_
    have nps : ps ≠ a := hw.ne fs
    refine q_forR1 (n := 2) (ea_cons ev_c ea_nil) (by omega) (fun i σ' H' => ∃ (y2 y3 : Option V) (bs : List Addr) (cs : List (List Int)), σ' = [some (.ref a), some (.ref ps), y2, y3, none, none, none, none, none, none, none, none, none, none, none, none, none, none] ∧ But a H H' ∧ Well H' a (n + i * 20) ∧ H' ps = some (.lst (bs.map .ref)) ∧ Som H' a ps bs cs ∧ bs.length = i) ?_ ?_ ?_
    · intro H1 e1
      exact ⟨_, _, [], [], rfl, But.ex (e0.trans e1), hw.ex (e0.trans e1), e1 _ _ g0, ⟨rfl, fun j b c x => by cases x⟩, rfl⟩
    · rintro i σ' H' hi ⟨y2, y3, bs, cs, rfl, bt, w, gp, sm', bl⟩
      have hi' : i < 2 := by omega
      refine qw_asgL (P := fun xs => ∃ c, xs = vi c ∧ c.length = 4 ∧ ∀ x ∈ c, 0 ≤ x ∧ x ≤ 2) (ewl_mono (ewl_lcR1 (N := 4) (P := fun r => r = 4) (PE := fun v => ∃ z, v = .int z ∧ 0 ≤ z ∧ z ≤ 2) (ew_pure ev_c ⟨_, rfl, rfl⟩) (fun r hr => by omega) (by decide) (fun _ => rfl) fun i H2 b2 => ew_mul (P := fun z => 0 ≤ z ∧ z ≤ 2) (ew_intB (ew_eq (P2 := fun r => r = 0) (ew_drawC (m := 3) rfl ev_c (by decide) (lt8000 (by decide))) (ew_c rfl))) (ew_add (P := fun r => 1 ≤ r ∧ r ≤ 2) (ew_c (P := fun r => r = 1) rfl) (ew_drawC (m := 2) rfl ev_c (by decide) (lt8000 (by decide))) (fun x y hx hy => by omega)) (fun x y hx hy => .inl (by rcases hx with rfl | rfl <;> decide)) ?_) ?_) w (by omega) ?_
      · rintro x y (rfl | rfl) ⟨y0, y1⟩
        · rw [Int.zero_mul]
          exact ⟨by decide, by decide⟩
        · rw [Int.one_mul]
          omega
      · rintro xs ⟨r, hr, el, hx⟩
        obtain ⟨c, rfl, hc⟩ := vi_of hx
        rw [List.length_map] at el
        exact ⟨c, rfl, by omega, hc⟩
      rintro pc _ H2 fpc b2 w2 gc ⟨c, rfl, cl, cb⟩
      have npc : pc ≠ a := w.ne fpc
      have npp : pc ≠ ps := fun z => by
        rw [z, gp] at fpc
        cases fpc
      have gp2 := b2 _ _ nps gp
      have sm2 := sm'.but b2
      by_cases hsum : 0 < c.sum
      · refine s_app gp2 (ev_var rfl) (ev_if (b := true) (et_test (ev_op (ev_sum (ev_var rfl) (sq_of gc)) ev_c (rv_b (decide_eq_true hsum)))) (fun _ => ev_var rfl) (fun h => nomatch h)) (by rw [List.length_map]; omega) fun H3 e3 => ?_
        refine ⟨_, _, bs ++ [pc], cs ++ [c], rfl, ((bt.trans b2).trans (But.ex e3)).own fs, ?_, by rw [upd_same, List.map_append]; rfl, (((sm2.but (But.ex e3)).snoc (e3 _ _ gc) (cts_sum cl cb hsum) npc npp)).upd, by rw [List.length_append, bl]; rfl⟩
        obtain ⟨x, y, c', q1, q2⟩ := (w2.ex e3).mono (m := n + (i + 1) * 20) (by omega)
        exact ⟨x, y, c', by rw [upd_ne (Ne.symm nps)]; exact q1, q2⟩
      · refine s_appL (ys := vi [1, 0, 0, 0]) gp2 (ev_var rfl) (el_ifF (et_test (ev_op (ev_sum (ev_var rfl) (sq_of gc)) ev_c (rv_b (decide_eq_false hsum)))) (el_lst (ea_cons ev_c (ea_cons ev_c (ea_cons ev_c (ea_cons ev_c ea_nil)))) (by show 4 ≤ 100000; decide))) (by rw [List.length_map]; omega) fun pq H3 fq e3 gq => ?_
        have nq : pq ≠ a := w2.ne fq
        have nqp : pq ≠ ps := fun z => by
          rw [z, gp2] at fq
          cases fq
        refine ⟨_, _, bs ++ [pq], cs ++ [[1, 0, 0, 0]], rfl, ((bt.trans b2).trans (But.ex e3)).own fs, ?_, by rw [upd_same, List.map_append]; rfl, (((sm2.but (But.ex e3)).snoc gq (cts_sum rfl (by decide) (by decide)) nq nqp)).upd, by rw [List.length_append, bl]; rfl⟩
        obtain ⟨x, y, c', q1, q2⟩ := (w2.ex e3).mono (m := n + (i + 1) * 20) (by omega)
        exact ⟨x, y, c', by rw [upd_ne (Ne.symm nps)]; exact q1, q2⟩
    rintro σ' H1 ⟨y2, y3, bs, cs, rfl, bt, w, gp, som, bl⟩
    obtain ⟨b1, b2, rfl⟩ : ∃ b1 b2, bs = [b1, b2] := match bs, bl with
      | [x, y], _ => ⟨x, y, rfl⟩
    obtain ⟨c1, c2, rfl⟩ : ∃ c1 c2, cs = [c1, c2] := match cs, som.1 with
      | [x, y], _ => ⟨x, y, rfl⟩
    obtain ⟨gb1, k1, na1, ns1⟩ := som.2 0 b1 c1 rfl rfl
    obtain ⟨gb2, k2, na2, ns2⟩ := som.2 1 b2 c2 rfl rfl
    have gp : H1 ps = some (.lst [.ref b1, .ref b2]) := gp
    clear som
    replace w : Well H1 a (n + 40) := w
    refine q_lcI (b := ps) (xs := [.ref b1, .ref b2]) (ev_var rfl) gp (fun _ => rfl) (by show 2 ≤ 1000; decide) (fun Dl m acc H' => H1 Dl = none ∧ But a H1 H' ∧ Well H' a (n + 40 + m * 300) ∧ H' Dl = some (.lst acc) ∧ ((m = 0 ∧ acc = []) ∨ (m = 1 ∧ ∃ s1 d1, acc = [.ref s1] ∧ H' s1 = some (.tup (vi d1)) ∧ OfC d1 c1) ∨ (m = 2 ∧ ∃ s1 d1 s2 d2, acc = [.ref s1, .ref s2] ∧ H' s1 = some (.tup (vi d1)) ∧ OfC d1 c1 ∧ H' s2 = some (.tup (vi d2)) ∧ OfC d2 c2))) ?_ ?_ ?_ ?_
    · intro Dl H2 e2 hD
      exact ⟨fresh_back e2 hD, (But.ex e2).trans (But.new hD), (w.ex (e2.trans (Ex.new hD))).mono (by omega), upd_same, .inl ⟨rfl, rfl⟩⟩
    · rintro Dl m acc H' ⟨_, b', _⟩
      exact sq_of (b' _ _ nps gp)
    · rintro Dl m acc x H' hx ⟨fD, b', w', gD, hh⟩
      have nD : Dl ≠ a := w.ne fD
      have wu : ∀ {N : Nat} {H4 : Hp} {o : HO}, Well H4 a N → Well (upd H4 Dl o) a N := fun {N H4 o} w4 => by
        obtain ⟨x, y, c', q1, q2⟩ := w4
        exact ⟨x, y, c', by rw [upd_ne (Ne.symm nD)]; exact q1, q2⟩
      have ta : ∀ {H4 : Hp} {N : Nat} {s : Addr} {xs : List V}, Well H4 a N → H4 s = some (.tup xs) → s ≠ a := fun {H4 N s xs} w4 g z => by
        obtain ⟨x, y, c', q1, q2⟩ := w4
        rw [z, q1] at g
        cases g
      rcases hh with ⟨rfl, rfl⟩ | ⟨rfl, s1, d1, rfl, gs1, o1⟩ | ⟨rfl, _⟩
      · cases hx
        refine ⟨.ref a, rfl, .ref b1, rfl, a, b1, _, c1, rfl, w', by omega, na1, b' _ _ na1 gb1, k1, fun s d H4 f4 b4 w4 g4 sF lF dF => ?_⟩
        have gD4 := b4 _ _ nD gD
        have sD : s ≠ Dl := fun z => by
          rw [z, gD4] at g4
          cases g4
        exact ⟨[], gD4, sz_lt (by show 0 < 100000; decide), [.ref s], fD, (b'.trans b4).own fD, wu (w4.mono (by omega)), upd_same, .inr (.inl ⟨rfl, s, d, rfl, by rw [upd_ne sD]; exact g4, sF, lF, dF⟩)⟩
      · cases hx
        refine ⟨.ref a, rfl, .ref b2, rfl, a, b2, _, c2, rfl, w', by omega, na2, b' _ _ na2 gb2, k2, fun s d H4 f4 b4 w4 g4 sF lF dF => ?_⟩
        have gD4 := b4 _ _ nD gD
        have sD : s ≠ Dl := fun z => by
          rw [z, gD4] at g4
          cases g4
        have s1D : s1 ≠ Dl := fun z => by
          rw [z, gD] at gs1
          cases gs1
        exact ⟨[.ref s1], gD4, sz_lt (by show 1 < 100000; decide), [.ref s1, .ref s], fD, (b'.trans b4).own fD, wu (w4.mono (by omega)), upd_same, .inr (.inr ⟨rfl, s1, d1, s, d, rfl, by rw [upd_ne s1D]; exact b4 _ _ (ta w' gs1) gs1, o1, by rw [upd_ne sD]; exact g4, sF, lF, dF⟩)⟩
      · cases hx
    rintro pS acc H2 ⟨fS, b12, w2, gS, hh⟩
    rcases hh with ⟨h, _⟩ | ⟨h, _⟩ | ⟨_, s1, d1, s2, d2, rfl, gs1, o1, gs2, o2⟩
    · cases h
    · cases h
    replace w2 : Well H2 a (n + 640) := w2
    have ta : ∀ {s : Addr} {xs : List V}, H2 s = some (.tup xs) → s ≠ a := fun {s xs} g z => by
      obtain ⟨x, y, c', q1, q2⟩ := w2
      rw [z, q1] at g
      cases g
    have nSa : pS ≠ a := w.ne fS
    have gp2 := b12 _ _ nps gp
    have hb1 := b12 _ _ na1 gb1
    have hb2 := b12 _ _ na2 gb2
    have t1 := cts_len o1 k1
    have t2 := cts_len o2 k2
    refine q_when (b := decide (300 < (d1.length : Int) * (d2.length : Int))) (et_test (ev_op (ev_op (ev_is (ev_lenT (ev_op (ev_var rfl) ev_c (rv_ixL (i := 0) (v := .ref s1) (sq_of gS) rfl)) (st_of gs1)) (by rw [List.length_map])) (ev_is (ev_lenT (ev_op (ev_var rfl) ev_c (rv_ixL (i := 1) (v := .ref s2) (sq_of gS) rfl)) (st_of gs2)) (by rw [List.length_map])) (rv_I (cml (by omega)))) ev_c (rv_b rfl))) (fun _ H3 e3 => s_ret ev_c fun H4 e4 => q H4 ((bt.trans b12).trans (But.ex (e3.trans e4))) ((w2.ex (e3.trans e4)).mono (by omega))) fun hb H3 e3 => ?_
    have l300 : d1.length * d2.length ≤ 300 := by
      have := of_decide_eq_false hb
      rw [← Int.natCast_mul] at this
      omega
    have w3 := w2.ex e3
    refine q_lcI (b := ps) (xs := [.ref b1, .ref b2]) (ev_var rfl) (e3 _ _ gp2) (fun _ => rfl) (by show 2 ≤ 1000; decide) (fun Dl m acc H' => H3 Dl = none ∧ But a H3 H' ∧ Well H' a (n + 640) ∧ H' Dl = some (.lst acc) ∧ ((m = 0 ∧ acc = []) ∨ (m = 1 ∧ ∃ s1, acc = [.ref s1] ∧ H' s1 = some (.lst (vi (w8 c1))) ∧ s1 ≠ Dl) ∨ (m = 2 ∧ ∃ s1 s2, acc = [.ref s1, .ref s2] ∧ H' s1 = some (.lst (vi (w8 c1))) ∧ H' s2 = some (.lst (vi (w8 c2)))))) ?_ ?_ ?_ ?_
    · intro Dl H4 e4 hD
      exact ⟨fresh_back e4 hD, (But.ex e4).trans (But.new hD), w3.ex (e4.trans (Ex.new hD)), upd_same, .inl ⟨rfl, rfl⟩⟩
    · rintro Dl m acc H' ⟨_, b', _⟩
      exact sq_of (b' _ _ nps (e3 _ _ gp2))
    · rintro Dl m acc x H' hx ⟨fD, b', w', gD, hh⟩
      have nD : Dl ≠ a := w3.ne fD
      have wu : ∀ {N : Nat} {H4 : Hp} {o : HO}, Well H4 a N → Well (upd H4 Dl o) a N := fun {N H4 o} w4 => by
        obtain ⟨x, y, c', q1, q2⟩ := w4
        exact ⟨x, y, c', by rw [upd_ne (Ne.symm nD)]; exact q1, q2⟩
      rcases hh with ⟨rfl, rfl⟩ | ⟨rfl, s1, rfl, gs1, sD1⟩ | ⟨rfl, _⟩
      · cases hx
        refine (el_cat (p := b1) (q := b1) (xs := vi c1) (ys := vi (List.replicate 8 0)) (ev_var rfl) (el_is (el_rep (n := 8) (el_lst (ea_cons ev_c ea_nil) (by show 1 ≤ 100000; decide)) (fun _ _ => ev_c) (by decide) (by show 1 * _ ≤ _; decide) (by decide)) (flat_rep _ _)) (b' _ _ na1 (e3 _ _ hb1)) (by rw [List.length_map, k1.1]; decide)) H' (Ex.refl H') _ fun r H4 hr e4 g4 => ?_
        have rD : r ≠ Dl := (ne_of_none gD hr).symm
        rw [vi_app] at g4
        exact ⟨[], e4 _ _ gD, sz_lt (by show 0 < 100000; decide), [.ref r], fD, (b'.trans (But.ex e4)).own fD, wu (w'.ex e4), upd_same, .inr (.inl ⟨rfl, r, rfl, by rw [upd_ne rD]; exact g4, rD⟩)⟩
      · cases hx
        refine (el_cat (p := b2) (q := b2) (xs := vi c2) (ys := vi (List.replicate 8 0)) (ev_var rfl) (el_is (el_rep (n := 8) (el_lst (ea_cons ev_c ea_nil) (by show 1 ≤ 100000; decide)) (fun _ _ => ev_c) (by decide) (by show 1 * _ ≤ _; decide) (by decide)) (flat_rep _ _)) (b' _ _ na2 (e3 _ _ hb2)) (by rw [List.length_map, k2.1]; decide)) H' (Ex.refl H') _ fun r H4 hr e4 g4 => ?_
        have rD : r ≠ Dl := (ne_of_none gD hr).symm
        rw [vi_app] at g4
        exact ⟨[.ref s1], e4 _ _ gD, sz_lt (by show 1 < 100000; decide), [.ref s1, .ref r], fD, (b'.trans (But.ex e4)).own fD, wu (w'.ex e4), upd_same, .inr (.inr ⟨rfl, s1, r, rfl, by rw [upd_ne sD1]; exact e4 _ _ gs1, by rw [upd_ne rD]; exact g4⟩)⟩
      · cases hx
    rintro pW acc H4 ⟨fW, b34, w4, gW, hh⟩
    rcases hh with ⟨h, _⟩ | ⟨h, _⟩ | ⟨_, x1, x2, rfl, gx1, gx2⟩
    · cases h
    · cases h
    have gS4 := b34 _ _ nSa (e3 _ _ gS)
    have gs14 := b34 _ _ (ta gs1) (e3 _ _ gs1)
    have gs24 := b34 _ _ (ta gs2) (e3 _ _ gs2)
    have hb14 := b34 _ _ na1 (e3 _ _ hb1)
    have hb24 := b34 _ _ na2 (e3 _ _ hb2)
    have gp4 := b34 _ _ nps (e3 _ _ gp2)
    have b04 : But a H H4 := ((bt.trans b12).trans (But.ex e3)).trans b34
    have sP := ofc_pair o1 o2 k1 k2 l300
    have due_nn := pairC_nn (m := 12) (fun x hx => (w8_nn k1 x hx).1) (fun x hx => (w8_nn k2 x hx).1)
    have due_l : (pairC (w8 c1) (w8 c2) 12).length = 12 := tab_length _ _
    have iS0 : ∀ {σ' : L2.St} {H5 : Hp}, Ex H4 H5 → SqL K H5 pS [.ref s1, .ref s2] := fun e => sq_of (e _ _ gS4)
    refine q_parLU (xs := vi (pairC (w8 c1) (w8 c2) 12)) (ys := vi (pairL d1 d2)) (el_call (ea_cons (ev_op (ev_var rfl) ev_c (rv_ixL (i := 0) (v := .ref x1) (sq_of gW) rfl)) (ea_cons (ev_op (ev_var rfl) ev_c (rv_ixL (i := 1) (v := .ref x2) (sq_of gW) rfl)) (ea_cons ev_c ea_nil))) (l_law_paired (m := 12) (sq_of gx1) (sq_of gx2) (w8_length k1) (w8_length k2) (by decide) (small200 (w8_nn k1)) (small200 (w8_nn k2)))) (fun p H5 _ e5 _ => eu_call (ea_cons (ev_op (ev_var rfl) ev_c (rv_ixL (i := 0) (v := .ref s1) (sq_of (e5 _ _ gS4)) rfl)) (ea_cons (ev_op (ev_var rfl) ev_c (rv_ixL (i := 1) (v := .ref s2) (sq_of (e5 _ _ gS4)) rfl)) ea_nil)) (u_paired (st_of (e5 _ _ gs14)) (st_of (e5 _ _ gs24)) o1.1 o2.1 l300)) fun pd pp H5 fd fp _ e5 gD gP => ?_
    refine q_when (b := false) (et_or (a := false) (b := false) (et_is (et_test (ev_neLL (ns := toldL (pairC (w8 c1) (w8 c2) 12)) (ms := toldL (pairC (w8 c1) (w8 c2) 12)) (el_is (el_call (ea_cons (ev_var rfl) ea_nil) (l_lengths (st_of gP) sP.1)) (by rw [sP.2.1])) (el_call (ea_cons (ev_var rfl) ea_nil) (l_law_told_lengths (sq_of gD) (by rw [due_l]; decide) (sP.bound due_nn))))) (by simp)) fun _ => et_is (et_test (ev_neLL (ns := rowL (pairC (w8 c1) (w8 c2) 12)) (ms := rowL (pairC (w8 c1) (w8 c2) 12)) (el_is (el_call (ea_cons (ev_var rfl) (ea_cons ev_c ea_nil)) (l_back_row (m := 12) (st_of gP) sP.1 (by decide) (by decide))) (by rw [← due_l, back_told fun t _ => pair_cnt o1 o2 k1 k2 t, due_l])) (el_call (ea_cons (ev_var rfl) ea_nil) (l_row_of (sq_of gD) (by rw [due_l]; decide) (by rw [due_l]; decide) due_nn)))) (by simp)) (fun h => nomatch h) fun _ H6 e6 => ?_
    have e46 := e5.trans e6
    have sB := ofc_bes o1 o2 k1 k2 (by omega)
    have add_nn := addL_nn (c := c1) (d := c2) (fun x hx => (k1.2.1 x hx).1) (fun x hx => (k2.2.1 x hx).1)
    have add_l : (addL c1 c2).length = 4 := by
      unfold addL
      rw [tab_length, k1.1, k2.1]
      rfl
    refine q_asgL (xs := vi (addL c1 c2)) (el_is (el_lcZ (fun i => V.int (c1.getD i 0 + c2.getD i 0)) (ev_op (ev_var rfl) ev_c (rv_ixL (i := 0) (v := .ref b1) (sq_of (e46 _ _ gp4)) rfl)) (ev_op (ev_var rfl) ev_c (rv_ixL (i := 1) (v := .ref b2) (sq_of (e46 _ _ gp4)) rfl)) (sq_of (e46 _ _ hb14)) (sq_of (e46 _ _ hb24)) (by rw [List.length_map, k1.1]; decide) (fun _ _ => rfl) ?_) ?_) fun pm H7 fm e7 gM => ?_
    · intro i x y H8 e8 hx hy
      obtain ⟨x', rfl, _, ex⟩ := vi_inv hx
      obtain ⟨y', rfl, _, ey⟩ := vi_inv hy
      rw [ex, ey]
      exact ev_op (ev_var rfl) (ev_var rfl) rv_I0
    · rw [List.length_map, List.length_map]
      exact given_tab _ _
    have e47 := e46.trans e7
    refine q_when (b := false) (et_is (et_test (ev_neLL (ns := toldL (addL c1 c2)) (ms := toldL (addL c1 c2)) (el_is (el_callU' (eu_call (ea_cons (ev_op (ev_var rfl) ev_c (rv_ixL (i := 0) (v := .ref s1) (sq_of (e47 _ _ gS4)) rfl)) (ea_cons (ev_op (ev_var rfl) ev_c (rv_ixL (i := 1) (v := .ref s2) (sq_of (e47 _ _ gS4)) rfl)) ea_nil)) (u_beside (st_of (e47 _ _ gs14)) (st_of (e47 _ _ gs24)) o1.1 o2.1 (by omega))) fun p H8 e8 g8 => l_lengths (st_of g8) sB.1) (by rw [sB.2.1])) (el_call (ea_cons (ev_var rfl) ea_nil) (l_law_told_lengths (sq_of gM) (by omega) (sB.bound add_nn))))) (by simp)) (fun h => nomatch h) fun _ H8 e8 => ?_
    have e48 := e47.trans e8
    refine qw_asg (P := fun v => ∃ t : Int, v = .int t ∧ -10 ≤ t ∧ t < 20) (d := 1) (ew_op (d1 := 1) (d2 := 0) (P1 := fun v => ∃ r, v = .int r ∧ 0 ≤ r ∧ r < 30) (P2 := fun v => v = .int 10) (ew_drawC (m := 30) rfl ev_c (by decide) (lt8000 (by decide))) (ew_pure ev_c rfl) ?_) (w4.ex e48) (by omega) ?_
    · rintro x y ⟨r, rfl, r0, r1⟩ rfl
      exact ⟨.int (r - 10), fun H => rv_I0, r - 10, rfl, by omega, by omega⟩
    rintro _ H9 b9 w9 ⟨tt, rfl, t0, t1'⟩
    have b49 : But a H4 H9 := (But.ex e48).trans b9
    have tup4 : ∀ {s : Addr} {xs : List V}, H4 s = some (.tup xs) → s ≠ a := fun {s xs} g z => by
      obtain ⟨x, y, c', q1, q2⟩ := w4
      rw [z, q1] at g
      cases g
    have gS9 := b49 _ _ nSa gS4
    have gs19 := b49 _ _ (tup4 gs14) gs14
    have hb19 := b49 _ _ na1 hb14
    have gp9 := b49 _ _ nps gp4
    obtain ⟨oG, fl4, fnn⟩ := fOf_ok o1 k1 tt
    have lG : (turnL d1 tt).length = d1.length := turn_length _ _
    refine q_asgU (xs := vi (turnL d1 tt)) (eu_call (ea_cons (ev_op (ev_var rfl) ev_c (rv_ixL (i := 0) (v := .ref s1) (sq_of gS9) rfl)) (ea_cons (ev_var rfl) ea_nil)) (u_turned (st_of gs19) o1.1)) fun pg H10 fg e10 gG => ?_
    have hb110 := e10 _ _ hb19
    have gp10 := e10 _ _ gp9
    refine q_asgL (xs := vi (fOf d1 c1 tt)) ?_ fun pf H11 ff e11 gF => ?_
    · unfold fOf
      by_cases z : tt = 0
      · rw [if_pos z, z]
        exact el_ifF (et_is (et_test (ev_op (ev_var rfl) ev_c (rv_ne rfl))) rfl) (el_is (el_lst (ea_cons (ev_is (ev_lenT (ev_var rfl) (st_of gG)) (by rw [List.length_map, lG])) (ea_cons ev_c (ea_cons ev_c (ea_cons ev_c ea_nil)))) (by show 4 ≤ 100000; decide)) rfl)
      · rw [if_neg z]
        exact el_ifT (et_is (et_test (ev_op (ev_var rfl) ev_c (rv_ne rfl))) (by simpa using z)) (el_call (ea_cons (ev_op (ev_var rfl) ev_c (rv_ixL (i := 0) (v := .ref b1) (sq_of gp10) rfl)) (ea_cons (ev_is (ev_abs (ev_var rfl)) (show _ = V.int ((tt.natAbs : Nat) : Int) by congr 1; split <;> omega)) (ea_cons ev_c ea_nil))) (l_law_fallen (m := 4) (sq_of hb110) (by rw [k1.1]; decide) (by omega) (by omega) (by decide)))
    have gG11 := e11 _ _ gG
    have ft : ths (fOf d1 c1 tt) (fOf d1 c1 tt).length = (d1.length : Int) := by rw [← oG.2.2, lG]
    have d0 := o1.1.1
    refine q_when (b := false) (et_is (et_test (ev_neLL (ns := toldL (fOf d1 c1 tt)) (ms := toldL (fOf d1 c1 tt)) (el_is (el_call (ea_cons (ev_var rfl) ea_nil) (l_lengths (st_of gG11) oG.1)) (by rw [oG.2.1])) (el_call (ea_cons (ev_var rfl) ea_nil) (l_law_told_lengths (sq_of gF) (by omega) (oG.bound fnn))))) (by simp)) (fun h => nomatch h) fun _ H12 e12 => ?_
    have gG12 := e12 _ _ gG11
    have gF12 := e12 _ _ gF
    have sE := due_shf fnn (by omega) (by omega)
    have lE := lens_due fnn (by omega) (by omega)
    have dE := dueL_length fnn (fOf d1 c1 tt).length
    generalize hes : dueL (fOf d1 c1 tt) (fOf d1 c1 tt).length = es at sE lE dE
    have lEs : es.length = (turnL d1 tt).length := by omega
    refine q_asgP (P := LeadV (turnL d1 tt) es) (ep_callVU' (ys := vi es) (ev_var rfl) (by rw [← hes]; exact eu_call (ea_cons (ev_var rfl) ea_nil) (u_shuffle_of (sq_of gF12) (by omega) (by omega) fnn (by omega) (by omega))) fun p H13 e13 g13 => p_lead (st_of (e13 _ _ gG12)) (st_of g13) oG.1 sE) fun vt H13 e13 ht => ?_
    unfold LeadV at ht
    rw [if_pos (oG.2.1.trans lE.symm)] at ht
    obtain ⟨pw, F, rfl, gW', sF, lF, hF⟩ := ht
    have gG13 := e13 _ _ gG12
    have gF13 := e13 _ _ gF12
    refine q_when (b := false) (et_or (a := false) (b := false) (et_is (et_test (ev_op (ev_var rfl) ev_c rv_isN)) rfl) fun _ => et_is (et_test (ev_neLL (ns := iota F.length) (ms := iota F.length) (el_sortedT (ev_var rfl) (st_of gW') sF.2.2 (iota_sorted _)) (el_is (el_rg1 (ev_is (ev_lenT (ev_var rfl) (st_of gG13)) (show _ = V.int (F.length : Int) by rw [List.length_map, lF])) (by omega) (by have := sF.2.1; omega)) (rgV_iota _)))) (by simp)) (fun h => nomatch h) fun _ H14 e14 => ?_
    have gG14 := e14 _ _ gG13
    have gF14 := e14 _ _ gF13
    have gW14 := e14 _ _ gW'
    refine q_asgU (xs := vi es) (by rw [← hes]; exact eu_call (ea_cons (ev_var rfl) ea_nil) (u_shuffle_of (sq_of gF14) (by omega) (by omega) fnn (by omega) (by omega))) fun pm' H15 fm' e15 gE => ?_
    have gG15 := e15 _ _ gG14
    have gW15 := e15 _ _ gW14
    have nl : (turnL d1 tt).length ≤ 300 := oG.1.2.1
    exact s_ret (v := .bl true) (ev_is (ev_eqLL (ns := tabL (turnL d1 tt).length fun i => (nx es (nx F i) : Int)) (ms := tabL (turnL d1 tt).length fun i => (nx es (nx F i) : Int)) (el_is (el_lcR1 (n := ((turnL d1 tt).length : Int)) (fun _ => true) (fun i => V.int (nx es (nx F i) : Int)) (ea_cons (ev_is (ev_lenT (ev_var rfl) (st_of gG15)) (by rw [List.length_map])) ea_nil) (by omega) (fun _ => rfl) (fun _ _ _ _ => et_yes) fun i H16 e16 hi _ => by
      have hi' : i < F.length := by omega
      exact ev_op (ev_var rfl) (ev_op (ev_var rfl) (ev_var rfl) (rv_ixT (st_of (e16 _ _ gW15)) (atI_nat (nx_at sF hi')))) (rv_ixT (st_of (e16 _ _ gE)) (atI_nat (nx_at sE (by have := nx_lt sF hi'; omega))))) (by rw [Int.toNat_natCast]; exact given_ints _ _)) (el_is (el_lcT (fun _ => true) (fun i => V.int (nx es (nx F i) : Int)) (ev_var rfl) (st_of gG15) (by rw [List.length_map]; omega) (fun _ => rfl) (fun _ _ _ _ _ => et_yes) fun i x H16 e16 hx _ => by
      have hi : i < (turnL d1 tt).length := by
        have := (List.getElem?_eq_some_iff.mp hx).1
        rwa [List.length_map] at this
      rw [nx_at oG.1 hi] at hx
      cases hx
      rw [hF i hi]
      exact ev_op (ev_var rfl) (ev_var rfl) (rv_ixT (st_of (e16 _ _ gW15)) (atI_nat (nx_at sF (by have := nx_lt oG.1 hi; omega))))) (by rw [List.length_map]; exact given_ints _ _))) (by simp)) fun H16 e16 => q H16 ((b04.trans b49).trans (But.ex (((((e10.trans e11).trans e12).trans e13).trans e14).trans (e15.trans e16)))) ((w9.ex (((((e10.trans e11).trans e12).trans e13).trans e14).trans (e15.trans e16))).mono (by omega))
/-! ### _law_rows_right -/
def sp_law_rows_right (K : PySem.W.Frag) : Sp := fun vs H Q _ => ∃ (a b1 b2 : Addr) (n m : Nat) (c d : List Int), vs = [.ref a, .ref b1, .ref b2] ∧ Well H a n ∧ n + 10 ≤ 2 ^ 50 ∧ H b1 = some (.lst (vi c)) ∧ H b2 = some (.lst (vi d)) ∧ b1 ≠ a ∧ b2 ≠ a ∧ 1 ≤ m ∧ m ≤ 30 ∧ Dr m c ∧ Dr m d ∧ ∀ H2, But a H H2 → Well H2 a (n + 10) → Q (.bl true) H2
theorem ok_law_rows_right (T : Txt K mg) : FnG P w K mg base CX0 6 T.a_law_rows_right T.d_law_rows_right ["flask", "one", "two"] (sp_law_rows_right K) := by
  refine okG T.F_law_rows_right sc_law_rows_right (fun vs H Q E h => ?_) (fun cdv A out s H vs Q E hr h => ?_)
  · obtain ⟨a, b1, b2, n, m, c, d, rfl, hw, hn, hB1, hB2, nb1, nb2, m0, m1, hc, hd, q⟩ := h
    rfl
  · obtain ⟨a, b1, b2, n, m, c, d, rfl, hw, hn, hB1, hB2, nb1, nb2, m0, m1, hc, hd, q⟩ := h
    refine ⟨_, (pss_cons (ps_set (i := 3) sc_law_rows_right.nd rfl (.inl rfl) (pe_callB (call_lenK (K := K) rfl) (by rfl) T.z_len bt_len (pa_cons (pv 1) pa_nil)))
    (pss_cons (ps_set (i := 4) sc_law_rows_right.nd rfl (.inl rfl) (pe_lst (pa_cons (callG (ok_row_of T) (hr.mono (by decide)) (by rfl) T.g_row_of T.F_row_of.kp (b_row_of T) .nil pass0 (pa_cons (pv 1) pa_nil)) (pa_cons (callG (ok_row_of T) (hr.mono (by decide)) (by rfl) T.g_row_of T.F_row_of.kp (b_row_of T) .nil pass0 (pa_cons (pv 2) pa_nil)) pa_nil))))
    (pss_cons (ps_set (i := 5) sc_law_rows_right.nd rfl (.inl rfl) (callG (ok_multiplied T) (hr.mono (by decide)) (by rfl) T.g_multiplied T.F_multiplied.kp (b_multiplied T) .nil pass0 (pa_cons (pe_ix (ix_listK (K := K) rfl) (pv 4) pe_int (fun _ _ => rfl)) (pa_cons (pe_ix (ix_listK (K := K) rfl) (pv 4) pe_int (fun _ _ => rfl)) pa_nil))))
    (pss_cons (ps_if (PW.pt (pw_or (pt_cmpR (op_neDK (K := K) rfl hr.rm.units) (callG (ok_rings T) (hr.mono (by decide)) (by rfl) T.g_rings T.F_rings.kp (b_rings T) .nil pass0 (pa_cons (pv 5) pa_nil)) (callG (ok_law_paired T) (hr.mono (by decide)) (by rfl) T.g_law_paired T.F_law_paired.kp (b_law_paired T) .nil pass0 (pa_cons (pv 1) (pa_cons (pv 2) (pa_cons (pv 3) pa_nil)))) (nomark _)) (pw_or1 (pt_cmpR op_notN (callG (ok_first_bar T) (hr.mono (by decide)) (by rfl) T.g_first_bar T.F_first_bar.kp (b_first_bar T) .nil pass0 (pa_cons (pv 5) pa_nil)) pe_non (nomark _)))))
      (pss_one (ps_ret pe_bl))
      pss_nil)
    (pss_cons (ps_if (pt_cmpR (op_neDK (K := K) rfl hr.rm.units) (callG (ok_rings T) (hr.mono (by decide)) (by rfl) T.g_rings T.F_rings.kp (b_rings T) .nil pass0 (pa_cons (callG (ok_added T) (hr.mono (by decide)) (by rfl) T.g_added T.F_added.kp (b_added T) .nil pass0 (pa_cons (pe_ix (ix_listK (K := K) rfl) (pv 4) pe_int (fun _ _ => rfl)) (pa_cons (pe_ix (ix_listK (K := K) rfl) (pv 4) pe_int (fun _ _ => rfl)) pa_nil))) pa_nil)) (pe_lc (own := [("a", 8), ("b", 9)]) (g := g2 K 8 9) rfl sc_law_rows_right.nd (pi_zip (by rfl) T.z_zip (pa_cons (pv 1) (pa_cons (pv 2) pa_nil))) (blkOk_by (own := [("a", 8), ("b", 9)]) (N := ["flask", "one", "two", "many", "lines", "mixed", "step", "further", "a", "b", "n", "count"]) (sc := defScope s_law_rows_right) (by decide +kernel)) (fun _ _ _ _ _ => (pg_tup rfl (pgs_cons (pg_name (i := 8) sc_law_rows_right.nd rfl (Or.inl rfl)) (pgs_cons (pg_name (i := 9) sc_law_rows_right.nd rfl (Or.inl rfl)) pgs_nil)))) (fun _ _ _ _ _ => pts_nil) (fun _ _ _ _ _ => (pe_op op_add (pv 8) (pv 9)))) (nomark _))
      (pss_one (ps_ret pe_bl))
      pss_nil)
    (pss_cons (ps_if (pt_cmpR (op_neDK (K := K) rfl hr.rm.units) (callG (ok_new_numbers T) (hr.mono (by decide)) (by rfl) T.g_new_numbers T.F_new_numbers.kp (b_new_numbers T) .nil pass0 (pa_cons (pv 5) pa_nil)) (pe_lc (own := [("n", 10), ("count", 11)]) (g := g2 K 10 11) rfl sc_law_rows_right.nd (pi_enum (by rfl) T.z_enumerate (pa_cons (callG (ok_rings T) (hr.mono (by decide)) (by rfl) T.g_rings T.F_rings.kp (b_rings T) .nil pass0 (pa_cons (pv 5) pa_nil)) pa_nil)) (blkOk_by (own := [("n", 10), ("count", 11)]) (N := ["flask", "one", "two", "many", "lines", "mixed", "step", "further", "a", "b", "n", "count"]) (sc := defScope s_law_rows_right) (by decide +kernel)) (fun _ _ _ _ _ => (pg_tup rfl (pgs_cons (pg_name (i := 10) sc_law_rows_right.nd rfl (Or.inl rfl)) (pgs_cons (pg_name (i := 11) sc_law_rows_right.nd rfl (Or.inl rfl)) pgs_nil)))) (fun _ _ _ _ _ => pts_nil) (fun _ _ _ _ _ => (pe_op op_mul (pe_op op_add (pv 10) pe_int) (pv 11)))) (nomark _))
      (pss_one (ps_ret pe_bl))
      pss_nil)
    (pss_cons (ps_set (i := 6) sc_law_rows_right.nd rfl (.inl rfl) (pe_op op_add pe_int (callG (ok_law_sip T) (hr.mono (by decide)) (by rfl) T.g_law_sip T.F_law_sip.kp (b_law_sip T) .nil pass0 (pa_cons (pv 0) (pa_cons (pv 3) pa_nil)))))
    (pss_cons (ps_set (i := 7) sc_law_rows_right.nd rfl (.inl rfl) (callG (ok_each T) (hr.mono (by decide)) (by rfl) T.g_each T.F_each.kp (b_each T) .nil pass0 (pa_cons (pe_ix (ix_listK (K := K) rfl) (pv 4) pe_int (fun _ _ => rfl)) (pa_cons (pv 6) pa_nil))))
    (pss_one (ps_ret (pe_and (pe_cmpR (op_eqDK (K := K) rfl hr.rm.units) (callG (ok_rings T) (hr.mono (by decide)) (by rfl) T.g_rings T.F_rings.kp (b_rings T) .nil pass0 (pa_cons (pv 7) pa_nil)) (callG (ok_law_fallen T) (hr.mono (by decide)) (by rfl) T.g_law_fallen T.F_law_fallen.kp (b_law_fallen T) .nil pass0 (pa_cons (pv 1) (pa_cons (pv 6) (pa_cons (pe_op op_fdivW (pv 3) (pv 6)) pa_nil)))) (nomark _)) (pe_one (pe_cmpR (op_eqDK (K := K) rfl hr.rm.units) (callG (ok_row_of T) (hr.mono (by decide)) (by rfl) T.g_row_of T.F_row_of.kp (b_row_of T) .nil pass0 (pa_cons (callG (ok_rings T) (hr.mono (by decide)) (by rfl) T.g_rings T.F_rings.kp (b_rings T) .nil pass0 (pa_cons (pv 7) pa_nil)) pa_nil)) (pv 7) (nomark _)))))))))))))), ?_⟩
    obtain ⟨hcl, hcb⟩ := hc
    obtain ⟨hdl, hdb⟩ := hd
    have cn : ∀ x ∈ c, 0 ≤ x := fun x hx => (hcb x hx).1
    have dn : ∀ x ∈ d, 0 ≤ x := fun x hx => (hdb x hx).1
    have e40 : (10 : Int) ^ 40 = 10000000000000000000000000000000000000000 := by decide
    have e20 : G20 = 100000000000000000000 := rfl
    have c40 : ∀ x ∈ c, 0 ≤ x ∧ x < 10 ^ 40 := fun x hx => by have := hcb x hx; rw [e40]; omega
    have d40 : ∀ x ∈ d, 0 ≤ x ∧ x < 10 ^ 40 := fun x hx => by have := hdb x hx; rw [e40]; omega
    have e2p : (2 : Nat) ^ 200 = 1606938044258990275541962092341162602522202993782792835301376 := by decide
    have ab : ∀ {l : List Int}, (∀ x ∈ l, 0 ≤ x ∧ x ≤ G20) → ∀ i, (l.getD i 0).natAbs < 2 ^ 200 := fun {l} hl i => by
      rw [e2p, List.getD_eq_getElem?_getD]
      cases g : l[i]? with
      | none => decide
      | some z =>
        have := hl z (List.mem_of_getElem? g)
        show z.natAbs < _
        omega
    have rc := rowL_length c
    have rdl := rowL_length d
    have pn := pairC_nn (m := m) cn dn
    have pl : (pairC c d m).length = m := tab_length _ _
    have rp := rowL_length (pairC c d m)
    have mr := mul_row (c := c) (d := d) (by omega)
    rw [hcl] at mr
    have frp := free_row pn
    refine q_asg (ev_is (ev_len (ev_var rfl) (sq_of hB1)) (show _ = V.int (m : Int) by rw [List.length_map, hcl])) fun H1 e1 => ?_
    refine q_asg2L (el_call (ea_cons (ev_var rfl) ea_nil) (l_row_of (sq_of (e1 _ _ hB1)) (by omega) (by omega) cn)) (el_call (ea_cons (ev_var rfl) ea_nil) (l_row_of (sq_of (e1 _ _ hB2)) (by omega) (by omega) dn)) fun pl' p1 p2 H2 fL fR1 fR2 e2 gL gR1 gR2 => ?_
    have e12 := e1.trans e2
    have ix0 : ∀ {H3 : Hp}, Ex H2 H3 → SqL K H3 pl' [.ref p1, .ref p2] := fun e => sq_of (e _ _ gL)
    refine q_asgL (xs := vi (rowL (pairC c d m))) (el_is (el_call (ea_cons (ev_op (ev_var rfl) ev_c (rv_ixL (i := 0) (v := .ref p1) (ix0 (Ex.refl _)) rfl)) (ea_cons (ev_op (ev_var rfl) ev_c (rv_ixL (i := 1) (v := .ref p2) (ix0 (Ex.refl _)) rfl)) ea_nil)) (l_multiplied (sq_of gR1) (sq_of gR2) (by omega) (by omega) (by omega) (by omega) (fun i => wmB (p500 (row_200 (by omega) c40 i)) (p500 (row_200 (by omega) d40 i))))) (by rw [mr])) fun pm H3 f3 e3 gM => ?_
    have e13 := e12.trans e3
    refine q_when (b := false) (et_or (a := false) (b := false) (et_is (et_test (ev_neLL (ns := pairC c d m) (ms := pairC c d m) (el_is (el_call (ea_cons (ev_var rfl) ea_nil) (l_rings (sq_of gM) (by omega) (by omega) frp)) (by rw [rings_row])) (el_call (ea_cons (ev_var rfl) (ea_cons (ev_var rfl) (ea_cons (ev_var rfl) ea_nil))) (l_law_paired (sq_of (e13 _ _ hB1)) (sq_of (e13 _ _ hB2)) hcl hdl (by omega) (ab hcb) (ab hdb))))) (by simp)) fun _ => et_is (et_test (ev_op (ev_call (ea_cons (ev_var rfl) ea_nil) (v_first_bar (sq_of gM) (by omega) (by omega) frp)) ev_c rv_notN)) rfl) (fun h => nomatch h) fun _ H4 e4 => ?_
    have e34 := e3.trans e4
    have e14 := e13.trans e4
    have gM4 := e4 _ _ gM
    refine q_when (b := false) (et_is (et_test (ev_neLL (ns := addL c d) (ms := addL c d) (el_is (el_callL (el_call (ea_cons (ev_op (ev_var rfl) ev_c (rv_ixL (i := 0) (v := .ref p1) (ix0 e34) rfl)) (ea_cons (ev_op (ev_var rfl) ev_c (rv_ixL (i := 1) (v := .ref p2) (ix0 e34) rfl)) ea_nil)) (l_added (sq_of (e34 _ _ gR1)) (sq_of (e34 _ _ gR2)) (by omega) (by omega) (by omega) (by omega))) fun r H5 e5 g5 => l_rings (sq_of g5) (by rw [add_row (by omega), rowL_length]; unfold addL; rw [tab_length]; omega) (by rw [add_row (by omega), rowL_length]; unfold addL; rw [tab_length]; omega) (by rw [add_row (by omega)]; exact free_row (addL_nn cn dn))) (by rw [add_row (by omega), rings_row])) (el_is (el_lcZ (fun i => V.int (c.getD i 0 + d.getD i 0)) (ev_var rfl) (ev_var rfl) (sq_of (e14 _ _ hB1)) (sq_of (e14 _ _ hB2)) (by rw [List.length_map]; omega) (fun _ _ => rfl) ?_) ?_))) (by simp)) (fun h => nomatch h) fun _ H5 e5 => ?_
    · intro i x y H6 e6 hx hy
      obtain ⟨x', rfl, _, ex⟩ := vi_inv hx
      obtain ⟨y', rfl, _, ey⟩ := vi_inv hy
      rw [ex, ey]
      exact ev_op (ev_var rfl) (ev_var rfl) rv_I0
    · rw [List.length_map, List.length_map]
      exact given_tab _ _
    have e35 := e34.trans e5
    have e15 := e14.trans e5
    have gM5 := e5 _ _ gM4
    refine q_when (b := false) (et_is (et_test (ev_neLL (ns := tabL m fun i => ((i + 1 : Nat) : Int) * (pairC c d m).getD i 0) (ms := tabL m fun i => ((i + 1 : Nat) : Int) * (pairC c d m).getD i 0) (el_is (el_call (ea_cons (ev_var rfl) ea_nil) (l_new_numbers (sq_of gM5) (by omega) (by omega))) (by rw [new_row, pl])) (el_is (el_lcNEn (fun _ => true) (fun i => V.int (((i + 1 : Nat) : Int) * (pairC c d m).getD i 0)) (xs := vi (pairC c d m)) (el_is (el_call (ea_cons (ev_var rfl) ea_nil) (l_rings (sq_of gM5) (by omega) (by omega) frp)) (by rw [rings_row])) (by rw [List.length_map]; omega) (fun _ _ => rfl) (fun _ _ _ _ _ => et_yes) ?_) ?_))) (by simp)) (fun h => nomatch h) fun _ H6 e6 => ?_
    · intro i x H7 e7 hx _
      have hi : i < m := by
        have := (List.getElem?_eq_some_iff.mp hx).1
        rw [List.length_map, pl] at this
        exact this
      obtain ⟨x', rfl, _, ex⟩ := vi_inv hx
      rw [ex]
      exact ev_is (ev_op (ev_op (ev_var rfl) ev_c rv_I0) (ev_var rfl) (rv_I (cml (by omega)))) (by rw [show (i : Int) + 1 = ((i + 1 : Nat) : Int) by omega])
    · rw [List.length_map, pl]
      exact given_tab _ _
    have e36 := e35.trans e6
    have e16 := e15.trans e6
    refine qw_asg (P := fun v => ∃ s : Int, v = .int s ∧ 1 ≤ s ∧ s ≤ m) (d := 1) (ew_add (P := fun s => 1 ≤ s ∧ s ≤ (m : Int)) (ew_c (P := fun r => r = 1) rfl) (ew_drawC (m := (m : Int)) rfl (ev_var rfl) (by omega) (lt8000 (by omega))) (fun x y hx hy => by omega)) (hw.ex e16) (by omega) ?_
    rintro _ H7 b7 w7 ⟨si, rfl, s0, s1⟩
    obtain ⟨s, rfl⟩ : ∃ s : Nat, si = s := ⟨si.toNat, by omega⟩
    have na : ∀ {p : Addr}, H p = none → p ≠ a := fun {p} h z => by
      obtain ⟨x, y, c', q1, q2⟩ := hw
      rw [z] at h
      rw [h] at q1
      cases q1
    have kp : ∀ {p : Addr} {o : HO}, p ≠ a → H6 p = some o → H7 p = some o := fun {p o} h g => b7 _ _ h g
    have e26 := e36
    have hb1 := kp nb1 (e16 _ _ hB1)
    have hgL := kp (na (fresh_back e1 fL)) (e36 _ _ gL)
    have hgR := kp (na (fresh_back e1 fR1)) (e36 _ _ gR1)
    have fl := fallC_nn (s := s) (m := m / s) cn
    have fll : (fallC c s (m / s)).length = m / s := tab_length _ _
    have frl := rowL_length (fallC c s (m / s))
    have fr := free_row fl
    have ds : 1 ≤ m / s := Nat.div_pos (by omega) (by omega)
    have dm : m / s ≤ m := Nat.div_le_self _ _
    have er := each_row (c := c) (s := s) (by omega)
    rw [hcl] at er
    refine q_asgL (xs := vi (rowL (fallC c s (m / s)))) (el_is (el_call (ea_cons (ev_op (ev_var rfl) ev_c (rv_ixL (i := 0) (v := .ref p1) (sq_of hgL) rfl)) (ea_cons (ev_var rfl) ea_nil)) (l_each (c := s) (sq_of hgR) (by omega) (by omega) (by omega) (by omega))) (by rw [er])) fun pf H8 f8 e8 gF => ?_
    exact s_ret (v := .bl true) (ev_is (ev_andV (a := true) (b := true) (ev_is (ev_eqLL (ns := fallC c s (m / s)) (ms := fallC c s (m / s)) (el_is (el_call (ea_cons (ev_var rfl) ea_nil) (l_rings (sq_of gF) (by omega) (by omega) fr)) (by rw [rings_row])) (el_call (ea_cons (ev_var rfl) (ea_cons (ev_var rfl) (ea_cons (ev_is (ev_op (ev_var rfl) (ev_var rfl) (rv_I (cdw _ (show (0 : Int) < (s : Int) by omega) (by omega)))) (by rw [← Int.natCast_ediv])) ea_nil))) (l_law_fallen (sq_of (e8 _ _ hb1)) (by omega) (by omega) (by omega) (by omega)))) (by simp)) fun _ => ev_is (ev_eqLV (ns := rowL (fallC c s (m / s))) (ms := rowL (fallC c s (m / s))) (el_is (el_callL (el_call (ea_cons (ev_var rfl) ea_nil) (l_rings (sq_of gF) (by omega) (by omega) fr)) fun r H9 e9 g9 => l_row_of (sq_of g9) (by rw [rings_row]; omega) (by rw [rings_row]; omega) (by rw [rings_row]; exact fl)) (by rw [rings_row])) (ev_var rfl) (sq_of gF)) (by simp)) rfl) fun H9 e9 => q H9 (((But.ex e16).trans b7).trans (But.ex (e8.trans e9))) ((w7.ex (e8.trans e9)).mono (by omega))
/-! ### law -/
def sp_law (K : PySem.W.Frag) : Sp := fun vs H Q _ => ∃ (a : Addr) (ns : List Int), vs = [.ref a] ∧ SqL K H a (vi ns) ∧ ns.length ≤ 63 ∧ ∀ H', Q (.bl true) H'
theorem ok_law (T : Txt K mg) : FnG P w K mg base CX0 7 T.a_law T.d_law ["script"] (sp_law K) := by
  refine okG T.F_law sc_law (fun vs H Q E h => ?_) (fun cdv A out s H vs Q E hr h => ?_)
  · obtain ⟨a, ns, rfl, hS, hl, q⟩ := h
    rfl
  · obtain ⟨a, ns, rfl, hS, hl, q⟩ := h
    refine ⟨_, (pss_cons (ps_for PassesOwn.never rfl (pi_range1 (by rfl) T.z_range (pa_cons (pe_callB (call_max2 rfl) (by rfl) T.z_max bt_max (pa_cons pe_int (pa_cons (pe_callB (call_min2 rfl) (by rfl) T.z_min bt_min (pa_cons pe_int (pa_cons (pe_callB (call_lenK (K := K) rfl) (by rfl) T.z_len bt_len (pa_cons (pv 0) pa_nil)) pa_nil))) pa_nil))) pa_nil)) (pg_name (i := 1) sc_law.nd rfl (.inl rfl))
      (pss_cons (ps_set (i := 2) sc_law.nd rfl (.inl rfl) (callG (ok_law_flask T) (hr.mono (by decide)) (by rfl) T.g_law_flask T.F_law_flask.kp (b_law_flask T) .nil pass0 (pa_cons (pv 0) (pa_cons (pv 1) pa_nil))))
      (pss_cons (ps_set (i := 3) sc_law.nd rfl (.inl rfl) (pe_op op_add pe_int (callG (ok_law_sip T) (hr.mono (by decide)) (by rfl) T.g_law_sip T.F_law_sip.kp (b_law_sip T) .nil pass0 (pa_cons (pv 2) (pa_cons pe_int pa_nil)))))
      (pss_cons (ps_if (pt_not (pt_val (callG (ok_law_rows_right T) (hr.mono (by decide)) (by rfl) T.g_law_rows_right T.F_law_rows_right.kp (b_law_rows_right T) .nil pass0 (pa_cons (pv 2) (pa_cons (callG (ok_law_drawn T) (hr.mono (by decide)) (by rfl) T.g_law_drawn T.F_law_drawn.kp (b_law_drawn T) .nil pass0 (pa_cons (pv 2) (pa_cons (pv 3) pa_nil))) (pa_cons (callG (ok_law_drawn T) (hr.mono (by decide)) (by rfl) T.g_law_drawn T.F_law_drawn.kp (b_law_drawn T) .nil pass0 (pa_cons (pv 2) (pa_cons (pv 3) pa_nil))) pa_nil))))))
        (pss_one (ps_ret pe_bl))
        pss_nil)
      (pss_one (ps_if (pt_not (pt_val (callG (ok_law_shuffles_right T) (hr.mono (by decide)) (by rfl) T.g_law_shuffles_right T.F_law_shuffles_right.kp (b_law_shuffles_right T) .nil pass0 (pa_cons (pv 2) pa_nil))))
        (pss_one (ps_ret pe_bl))
        pss_nil))))))
    (pss_one (ps_ret pe_bl))), ?_⟩
    refine q_forR1 (ea_cons (ev_max2 ev_c (ev_min2 ev_c (ev_len (ev_var rfl) hS))) ea_nil) ?_ (fun i σ' H' => ∃ y1 y2 y3, σ' = [some (.ref a), y1, y2, y3] ∧ Ex H H') ?_ ?_ ?_
    · split <;> split <;> omega
    · intro H1 e1
      exact ⟨_, _, _, rfl, e1⟩
    · rintro i σ' H' hi ⟨y1, y2, y3, rfl, e⟩
      have h6 : (i : Int) < 3 := by
        split at hi <;> split at hi <;> omega
      refine q_asgRaw ⟨.ref a, rfl, .int i, rfl, a, ns, i, rfl, ex_l e hS, by omega, by omega, fun p H1 hp e1 hw => ?_⟩
      refine qw_asg (P := fun v => ∃ r : Int, v = .int r ∧ 1 ≤ r ∧ r ≤ 12) (d := 1) (ew_add (P := fun r => 1 ≤ r ∧ r ≤ 12) (ew_c (P := fun r => r = 1) rfl) (ew_drawC (m := 12) rfl ev_c (by decide) (lt8000 (by decide))) (fun x y hx hy => by omega)) hw (by decide) ?_
      rintro _ H2 b2 w2 ⟨r, rfl, r0, r1⟩
      obtain ⟨m, rfl⟩ : ∃ m : Nat, r = m := ⟨r.toNat, by omega⟩
      have args : ∀ {H3 : Hp}, EvWA p (0 + (0 + 0)) (tCons (tVar 2) (tCons (tVar 3) tNil)) [some (.ref a), some (.int (i : Int)), some (.ref p), some (.int (m : Int))] H3 (fun vs => vs = [.ref p, .int (m : Int)]) := fun {H3} => ewa_mono (ewa_cons (ew_pure (P := fun v => v = .ref p) (ev_var rfl) rfl) (ewa_cons (ew_pure (P := fun v => v = .int (m : Int)) (ev_var rfl) rfl) ewa_nil)) (by rintro vs ⟨_, _, rfl, rfl, _, _, rfl, rfl, rfl⟩; rfl)
      refine ⟨.ref p, rfl, (wl_law_drawn (m := m) (by omega) args) _ H2 (But.refl p H2) w2 (by decide) _ ?_⟩
      rintro q1 xs1 H3 f3 b3 w3 g3 ⟨c, rfl, dc⟩
      refine (wl_law_drawn (m := m) (by omega) args) _ H3 (But.refl p H3) w3 (by decide) _ ?_
      rintro q2 xs2 H4 f4 b4 w4 g4 ⟨d, rfl, dd⟩
      have nq1 : q1 ≠ p := w2.ne f3
      have nq2 : q2 ≠ p := w3.ne f4
      refine ⟨p, q1, q2, _, m, c, d, rfl, w4, by decide, b4 _ _ nq1 g3, g4, nq1, nq2, by omega, by omega, dc, dd, fun H5 b5 w5 => ⟨true, rfl, iteF ?_⟩⟩
      refine ⟨.ref p, rfl, p, _, rfl, w5, by decide, fun H6 b6 w6 => ⟨true, rfl, iteF ?_⟩⟩
      exact ⟨_, _, _, rfl, e.trans (ex_but e1 hp ((((b2.trans b3).trans b4).trans b5).trans b6))⟩
    · rintro σ' H' ⟨y1, y2, y3, rfl, e⟩
      exact s_ret ev_c fun H2 _ => q H2
end
theorem all_mk {w : World} {K : PySem.W.Frag} {h : Heap} {mg : Str → Option Value} {fa : Addr} (X : K.In h) (G : h.Ns mainGlobals mg) (hfa : mg "law" = some (.ref fa))
    {f0 : Addr} {od0 an0 : Option Addr} {sl0 : Array (Option Value)} {oc0 kV0 dc0 pm0 cd0 ct0 : Value}
    (a0 : PySem.W.nsIn K mainGlobals "is_whole" = some (some (.ref f0))) (l0 : K.lookup f0 = some ⟨oc0, od0, .func (PySem.W.fnOf "is_whole" "is_whole" (defArgs s_is_whole) (defBody s_is_whole) (defScope s_is_whole) .none kV0 dc0 pm0 an0 cd0 ct0), sl0⟩) (c0 : PySem.W.codeIn K cd0 "is_whole" = true) (k0 : PySem.W.keepIn K (.ref f0) = true)
    {f1 : Addr} {od1 an1 : Option Addr} {sl1 : Array (Option Value)} {oc1 kV1 dc1 pm1 cd1 ct1 : Value}
    (a1 : PySem.W.nsIn K mainGlobals "_rings_in" = some (some (.ref f1))) (l1 : K.lookup f1 = some ⟨oc1, od1, .func (PySem.W.fnOf "_rings_in" "_rings_in" (defArgs s_rings_in) (defBody s_rings_in) (defScope s_rings_in) .none kV1 dc1 pm1 an1 cd1 ct1), sl1⟩) (c1 : PySem.W.codeIn K cd1 "_rings_in" = true) (k1 : PySem.W.keepIn K (.ref f1) = true)
    {f2 : Addr} {od2 an2 : Option Addr} {sl2 : Array (Option Value)} {oc2 kV2 dc2 pm2 cd2 ct2 : Value}
    (a2 : PySem.W.nsIn K mainGlobals "_check_things" = some (some (.ref f2))) (l2 : K.lookup f2 = some ⟨oc2, od2, .func (PySem.W.fnOf "_check_things" "_check_things" (defArgs s_check_things) (defBody s_check_things) (defScope s_check_things) .none kV2 dc2 pm2 an2 cd2 ct2), sl2⟩) (c2 : PySem.W.codeIn K cd2 "_check_things" = true) (k2 : PySem.W.keepIn K (.ref f2) = true)
    {f3 : Addr} {od3 an3 : Option Addr} {sl3 : Array (Option Value)} {oc3 kV3 dc3 pm3 cd3 ct3 : Value}
    (a3 : PySem.W.nsIn K mainGlobals "_law_flask" = some (some (.ref f3))) (l3 : K.lookup f3 = some ⟨oc3, od3, .func (PySem.W.fnOf "_law_flask" "_law_flask" (defArgs s_law_flask) (defBody s_law_flask) (defScope s_law_flask) .none kV3 dc3 pm3 an3 cd3 ct3), sl3⟩) (c3 : PySem.W.codeIn K cd3 "_law_flask" = true) (k3 : PySem.W.keepIn K (.ref f3) = true)
    {f4 : Addr} {od4 an4 : Option Addr} {sl4 : Array (Option Value)} {oc4 kV4 dc4 pm4 cd4 ct4 : Value}
    (a4 : PySem.W.nsIn K mainGlobals "_law_sip" = some (some (.ref f4))) (l4 : K.lookup f4 = some ⟨oc4, od4, .func (PySem.W.fnOf "_law_sip" "_law_sip" (defArgs s_law_sip) (defBody s_law_sip) (defScope s_law_sip) .none kV4 dc4 pm4 an4 cd4 ct4), sl4⟩) (c4 : PySem.W.codeIn K cd4 "_law_sip" = true) (k4 : PySem.W.keepIn K (.ref f4) = true)
    {f5 : Addr} {od5 an5 : Option Addr} {sl5 : Array (Option Value)} {oc5 kV5 dc5 pm5 cd5 ct5 : Value}
    (a5 : PySem.W.nsIn K mainGlobals "_law_common" = some (some (.ref f5))) (l5 : K.lookup f5 = some ⟨oc5, od5, .func (PySem.W.fnOf "_law_common" "_law_common" (defArgs s_law_common) (defBody s_law_common) (defScope s_law_common) .none kV5 dc5 pm5 an5 cd5 ct5), sl5⟩) (c5 : PySem.W.codeIn K cd5 "_law_common" = true) (k5 : PySem.W.keepIn K (.ref f5) = true)
    {f6 : Addr} {od6 an6 : Option Addr} {sl6 : Array (Option Value)} {oc6 kV6 dc6 pm6 cd6 ct6 : Value}
    (a6 : PySem.W.nsIn K mainGlobals "_law_told_lengths" = some (some (.ref f6))) (l6 : K.lookup f6 = some ⟨oc6, od6, .func (PySem.W.fnOf "_law_told_lengths" "_law_told_lengths" (defArgs s_law_told_lengths) (defBody s_law_told_lengths) (defScope s_law_told_lengths) .none kV6 dc6 pm6 an6 cd6 ct6), sl6⟩) (c6 : PySem.W.codeIn K cd6 "_law_told_lengths" = true) (k6 : PySem.W.keepIn K (.ref f6) = true)
    {f7 : Addr} {od7 an7 : Option Addr} {sl7 : Array (Option Value)} {oc7 kV7 dc7 pm7 cd7 ct7 : Value}
    (a7 : PySem.W.nsIn K mainGlobals "is_from_to" = some (some (.ref f7))) (l7 : K.lookup f7 = some ⟨oc7, od7, .func (PySem.W.fnOf "is_from_to" "is_from_to" (defArgs s_is_from_to) (defBody s_is_from_to) (defScope s_is_from_to) .none kV7 dc7 pm7 an7 cd7 ct7), sl7⟩) (c7 : PySem.W.codeIn K cd7 "is_from_to" = true) (k7 : PySem.W.keepIn K (.ref f7) = true)
    {f8 : Addr} {od8 an8 : Option Addr} {sl8 : Array (Option Value)} {oc8 kV8 dc8 pm8 cd8 ct8 : Value}
    (a8 : PySem.W.nsIn K mainGlobals "check_row" = some (some (.ref f8))) (l8 : K.lookup f8 = some ⟨oc8, od8, .func (PySem.W.fnOf "check_row" "check_row" (defArgs s_check_row) (defBody s_check_row) (defScope s_check_row) .none kV8 dc8 pm8 an8 cd8 ct8), sl8⟩) (c8 : PySem.W.codeIn K cd8 "check_row" = true) (k8 : PySem.W.keepIn K (.ref f8) = true)
    {f9 : Addr} {od9 an9 : Option Addr} {sl9 : Array (Option Value)} {oc9 kV9 dc9 pm9 cd9 ct9 : Value}
    (a9 : PySem.W.nsIn K mainGlobals "check_counts" = some (some (.ref f9))) (l9 : K.lookup f9 = some ⟨oc9, od9, .func (PySem.W.fnOf "check_counts" "check_counts" (defArgs s_check_counts) (defBody s_check_counts) (defScope s_check_counts) .none kV9 dc9 pm9 an9 cd9 ct9), sl9⟩) (c9 : PySem.W.codeIn K cd9 "check_counts" = true) (k9 : PySem.W.keepIn K (.ref f9) = true)
    {f10 : Addr} {od10 an10 : Option Addr} {sl10 : Array (Option Value)} {oc10 kV10 dc10 pm10 cd10 ct10 : Value}
    (a10 : PySem.W.nsIn K mainGlobals "check_shuffle" = some (some (.ref f10))) (l10 : K.lookup f10 = some ⟨oc10, od10, .func (PySem.W.fnOf "check_shuffle" "check_shuffle" (defArgs s_check_shuffle) (defBody s_check_shuffle) (defScope s_check_shuffle) .none kV10 dc10 pm10 an10 cd10 ct10), sl10⟩) (c10 : PySem.W.codeIn K cd10 "check_shuffle" = true) (k10 : PySem.W.keepIn K (.ref f10) = true)
    {f11 : Addr} {od11 an11 : Option Addr} {sl11 : Array (Option Value)} {oc11 kV11 dc11 pm11 cd11 ct11 : Value}
    (a11 : PySem.W.nsIn K mainGlobals "_law_drawn" = some (some (.ref f11))) (l11 : K.lookup f11 = some ⟨oc11, od11, .func (PySem.W.fnOf "_law_drawn" "_law_drawn" (defArgs s_law_drawn) (defBody s_law_drawn) (defScope s_law_drawn) .none kV11 dc11 pm11 an11 cd11 ct11), sl11⟩) (c11 : PySem.W.codeIn K cd11 "_law_drawn" = true) (k11 : PySem.W.keepIn K (.ref f11) = true)
    {f12 : Addr} {od12 an12 : Option Addr} {sl12 : Array (Option Value)} {oc12 kV12 dc12 pm12 cd12 ct12 : Value}
    (a12 : PySem.W.nsIn K mainGlobals "_law_paired" = some (some (.ref f12))) (l12 : K.lookup f12 = some ⟨oc12, od12, .func (PySem.W.fnOf "_law_paired" "_law_paired" (defArgs s_law_paired) (defBody s_law_paired) (defScope s_law_paired) .none kV12 dc12 pm12 an12 cd12 ct12), sl12⟩) (c12 : PySem.W.codeIn K cd12 "_law_paired" = true) (k12 : PySem.W.keepIn K (.ref f12) = true)
    {f13 : Addr} {od13 an13 : Option Addr} {sl13 : Array (Option Value)} {oc13 kV13 dc13 pm13 cd13 ct13 : Value}
    (a13 : PySem.W.nsIn K mainGlobals "_law_fallen" = some (some (.ref f13))) (l13 : K.lookup f13 = some ⟨oc13, od13, .func (PySem.W.fnOf "_law_fallen" "_law_fallen" (defArgs s_law_fallen) (defBody s_law_fallen) (defScope s_law_fallen) .none kV13 dc13 pm13 an13 cd13 ct13), sl13⟩) (c13 : PySem.W.codeIn K cd13 "_law_fallen" = true) (k13 : PySem.W.keepIn K (.ref f13) = true)
    {f14 : Addr} {od14 an14 : Option Addr} {sl14 : Array (Option Value)} {oc14 kV14 dc14 pm14 cd14 ct14 : Value}
    (a14 : PySem.W.nsIn K mainGlobals "_law_places" = some (some (.ref f14))) (l14 : K.lookup f14 = some ⟨oc14, od14, .func (PySem.W.fnOf "_law_places" "_law_places" (defArgs s_law_places) (defBody s_law_places) (defScope s_law_places) .none kV14 dc14 pm14 an14 cd14 ct14), sl14⟩) (c14 : PySem.W.codeIn K cd14 "_law_places" = true) (k14 : PySem.W.keepIn K (.ref f14) = true)
    {f15 : Addr} {od15 an15 : Option Addr} {sl15 : Array (Option Value)} {oc15 kV15 dc15 pm15 cd15 ct15 : Value}
    (a15 : PySem.W.nsIn K mainGlobals "check_many" = some (some (.ref f15))) (l15 : K.lookup f15 = some ⟨oc15, od15, .func (PySem.W.fnOf "check_many" "check_many" (defArgs s_check_many) (defBody s_check_many) (defScope s_check_many) .none kV15 dc15 pm15 an15 cd15 ct15), sl15⟩) (c15 : PySem.W.codeIn K cd15 "check_many" = true) (k15 : PySem.W.keepIn K (.ref f15) = true)
    {f16 : Addr} {od16 an16 : Option Addr} {sl16 : Array (Option Value)} {oc16 kV16 dc16 pm16 cd16 ct16 : Value}
    (a16 : PySem.W.nsIn K mainGlobals "new_numbers" = some (some (.ref f16))) (l16 : K.lookup f16 = some ⟨oc16, od16, .func (PySem.W.fnOf "new_numbers" "new_numbers" (defArgs s_new_numbers) (defBody s_new_numbers) (defScope s_new_numbers) .none kV16 dc16 pm16 an16 cd16 ct16), sl16⟩) (c16 : PySem.W.codeIn K cd16 "new_numbers" = true) (k16 : PySem.W.keepIn K (.ref f16) = true)
    {f17 : Addr} {od17 an17 : Option Addr} {sl17 : Array (Option Value)} {oc17 kV17 dc17 pm17 cd17 ct17 : Value}
    (a17 : PySem.W.nsIn K mainGlobals "row_of" = some (some (.ref f17))) (l17 : K.lookup f17 = some ⟨oc17, od17, .func (PySem.W.fnOf "row_of" "row_of" (defArgs s_row_of) (defBody s_row_of) (defScope s_row_of) .none kV17 dc17 pm17 an17 cd17 ct17), sl17⟩) (c17 : PySem.W.codeIn K cd17 "row_of" = true) (k17 : PySem.W.keepIn K (.ref f17) = true)
    {f18 : Addr} {od18 an18 : Option Addr} {sl18 : Array (Option Value)} {oc18 kV18 dc18 pm18 cd18 ct18 : Value}
    (a18 : PySem.W.nsIn K mainGlobals "added" = some (some (.ref f18))) (l18 : K.lookup f18 = some ⟨oc18, od18, .func (PySem.W.fnOf "added" "added" (defArgs s_added) (defBody s_added) (defScope s_added) .none kV18 dc18 pm18 an18 cd18 ct18), sl18⟩) (c18 : PySem.W.codeIn K cd18 "added" = true) (k18 : PySem.W.keepIn K (.ref f18) = true)
    {f19 : Addr} {od19 an19 : Option Addr} {sl19 : Array (Option Value)} {oc19 kV19 dc19 pm19 cd19 ct19 : Value}
    (a19 : PySem.W.nsIn K mainGlobals "multiplied" = some (some (.ref f19))) (l19 : K.lookup f19 = some ⟨oc19, od19, .func (PySem.W.fnOf "multiplied" "multiplied" (defArgs s_multiplied) (defBody s_multiplied) (defScope s_multiplied) .none kV19 dc19 pm19 an19 cd19 ct19), sl19⟩) (c19 : PySem.W.codeIn K cd19 "multiplied" = true) (k19 : PySem.W.keepIn K (.ref f19) = true)
    {f20 : Addr} {od20 an20 : Option Addr} {sl20 : Array (Option Value)} {oc20 kV20 dc20 pm20 cd20 ct20 : Value}
    (a20 : PySem.W.nsIn K mainGlobals "each" = some (some (.ref f20))) (l20 : K.lookup f20 = some ⟨oc20, od20, .func (PySem.W.fnOf "each" "each" (defArgs s_each) (defBody s_each) (defScope s_each) .none kV20 dc20 pm20 an20 cd20 ct20), sl20⟩) (c20 : PySem.W.codeIn K cd20 "each" = true) (k20 : PySem.W.keepIn K (.ref f20) = true)
    {f21 : Addr} {od21 an21 : Option Addr} {sl21 : Array (Option Value)} {oc21 kV21 dc21 pm21 cd21 ct21 : Value}
    (a21 : PySem.W.nsIn K mainGlobals "lengths" = some (some (.ref f21))) (l21 : K.lookup f21 = some ⟨oc21, od21, .func (PySem.W.fnOf "lengths" "lengths" (defArgs s_lengths) (defBody s_lengths) (defScope s_lengths) .none kV21 dc21 pm21 an21 cd21 ct21), sl21⟩) (c21 : PySem.W.codeIn K cd21 "lengths" = true) (k21 : PySem.W.keepIn K (.ref f21) = true)
    {f22 : Addr} {od22 an22 : Option Addr} {sl22 : Array (Option Value)} {oc22 kV22 dc22 pm22 cd22 ct22 : Value}
    (a22 : PySem.W.nsIn K mainGlobals "turned" = some (some (.ref f22))) (l22 : K.lookup f22 = some ⟨oc22, od22, .func (PySem.W.fnOf "turned" "turned" (defArgs s_turned) (defBody s_turned) (defScope s_turned) .none kV22 dc22 pm22 an22 cd22 ct22), sl22⟩) (c22 : PySem.W.codeIn K cd22 "turned" = true) (k22 : PySem.W.keepIn K (.ref f22) = true)
    {f23 : Addr} {od23 an23 : Option Addr} {sl23 : Array (Option Value)} {oc23 kV23 dc23 pm23 cd23 ct23 : Value}
    (a23 : PySem.W.nsIn K mainGlobals "beside" = some (some (.ref f23))) (l23 : K.lookup f23 = some ⟨oc23, od23, .func (PySem.W.fnOf "beside" "beside" (defArgs s_beside) (defBody s_beside) (defScope s_beside) .none kV23 dc23 pm23 an23 cd23 ct23), sl23⟩) (c23 : PySem.W.codeIn K cd23 "beside" = true) (k23 : PySem.W.keepIn K (.ref f23) = true)
    {f24 : Addr} {od24 an24 : Option Addr} {sl24 : Array (Option Value)} {oc24 kV24 dc24 pm24 cd24 ct24 : Value}
    (a24 : PySem.W.nsIn K mainGlobals "paired" = some (some (.ref f24))) (l24 : K.lookup f24 = some ⟨oc24, od24, .func (PySem.W.fnOf "paired" "paired" (defArgs s_paired) (defBody s_paired) (defScope s_paired) .none kV24 dc24 pm24 an24 cd24 ct24), sl24⟩) (c24 : PySem.W.codeIn K cd24 "paired" = true) (k24 : PySem.W.keepIn K (.ref f24) = true)
    {f25 : Addr} {od25 an25 : Option Addr} {sl25 : Array (Option Value)} {oc25 kV25 dc25 pm25 cd25 ct25 : Value}
    (a25 : PySem.W.nsIn K mainGlobals "shuffle_of" = some (some (.ref f25))) (l25 : K.lookup f25 = some ⟨oc25, od25, .func (PySem.W.fnOf "shuffle_of" "shuffle_of" (defArgs s_shuffle_of) (defBody s_shuffle_of) (defScope s_shuffle_of) .none kV25 dc25 pm25 an25 cd25 ct25), sl25⟩) (c25 : PySem.W.codeIn K cd25 "shuffle_of" = true) (k25 : PySem.W.keepIn K (.ref f25) = true)
    {f26 : Addr} {od26 an26 : Option Addr} {sl26 : Array (Option Value)} {oc26 kV26 dc26 pm26 cd26 ct26 : Value}
    (a26 : PySem.W.nsIn K mainGlobals "first_bar" = some (some (.ref f26))) (l26 : K.lookup f26 = some ⟨oc26, od26, .func (PySem.W.fnOf "first_bar" "first_bar" (defArgs s_first_bar) (defBody s_first_bar) (defScope s_first_bar) .none kV26 dc26 pm26 an26 cd26 ct26), sl26⟩) (c26 : PySem.W.codeIn K cd26 "first_bar" = true) (k26 : PySem.W.keepIn K (.ref f26) = true)
    {f27 : Addr} {od27 an27 : Option Addr} {sl27 : Array (Option Value)} {oc27 kV27 dc27 pm27 cd27 ct27 : Value}
    (a27 : PySem.W.nsIn K mainGlobals "back_row" = some (some (.ref f27))) (l27 : K.lookup f27 = some ⟨oc27, od27, .func (PySem.W.fnOf "back_row" "back_row" (defArgs s_back_row) (defBody s_back_row) (defScope s_back_row) .none kV27 dc27 pm27 an27 cd27 ct27), sl27⟩) (c27 : PySem.W.codeIn K cd27 "back_row" = true) (k27 : PySem.W.keepIn K (.ref f27) = true)
    {f28 : Addr} {od28 an28 : Option Addr} {sl28 : Array (Option Value)} {oc28 kV28 dc28 pm28 cd28 ct28 : Value}
    (a28 : PySem.W.nsIn K mainGlobals "lead" = some (some (.ref f28))) (l28 : K.lookup f28 = some ⟨oc28, od28, .func (PySem.W.fnOf "lead" "lead" (defArgs s_lead) (defBody s_lead) (defScope s_lead) .none kV28 dc28 pm28 an28 cd28 ct28), sl28⟩) (c28 : PySem.W.codeIn K cd28 "lead" = true) (k28 : PySem.W.keepIn K (.ref f28) = true)
    {f29 : Addr} {od29 an29 : Option Addr} {sl29 : Array (Option Value)} {oc29 kV29 dc29 pm29 cd29 ct29 : Value}
    (a29 : PySem.W.nsIn K mainGlobals "rings" = some (some (.ref f29))) (l29 : K.lookup f29 = some ⟨oc29, od29, .func (PySem.W.fnOf "rings" "rings" (defArgs s_rings) (defBody s_rings) (defScope s_rings) .none kV29 dc29 pm29 an29 cd29 ct29), sl29⟩) (c29 : PySem.W.codeIn K cd29 "rings" = true) (k29 : PySem.W.keepIn K (.ref f29) = true)
    {f30 : Addr} {od30 an30 : Option Addr} {sl30 : Array (Option Value)} {oc30 kV30 dc30 pm30 cd30 ct30 : Value}
    (a30 : PySem.W.nsIn K mainGlobals "_law_shuffles_right" = some (some (.ref f30))) (l30 : K.lookup f30 = some ⟨oc30, od30, .func (PySem.W.fnOf "_law_shuffles_right" "_law_shuffles_right" (defArgs s_law_shuffles_right) (defBody s_law_shuffles_right) (defScope s_law_shuffles_right) .none kV30 dc30 pm30 an30 cd30 ct30), sl30⟩) (c30 : PySem.W.codeIn K cd30 "_law_shuffles_right" = true) (k30 : PySem.W.keepIn K (.ref f30) = true)
    {f31 : Addr} {od31 an31 : Option Addr} {sl31 : Array (Option Value)} {oc31 kV31 dc31 pm31 cd31 ct31 : Value}
    (a31 : PySem.W.nsIn K mainGlobals "_law_rows_right" = some (some (.ref f31))) (l31 : K.lookup f31 = some ⟨oc31, od31, .func (PySem.W.fnOf "_law_rows_right" "_law_rows_right" (defArgs s_law_rows_right) (defBody s_law_rows_right) (defScope s_law_rows_right) .none kV31 dc31 pm31 an31 cd31 ct31), sl31⟩) (c31 : PySem.W.codeIn K cd31 "_law_rows_right" = true) (k31 : PySem.W.keepIn K (.ref f31) = true)
    {f32 : Addr} {od32 an32 : Option Addr} {sl32 : Array (Option Value)} {oc32 kV32 dc32 pm32 cd32 ct32 : Value}
    (a32 : PySem.W.nsIn K mainGlobals "law" = some (some (.ref f32))) (l32 : K.lookup f32 = some ⟨oc32, od32, .func (PySem.W.fnOf "law" "law" (defArgs s_law) (defBody s_law) (defScope s_law) .none kV32 dc32 pm32 an32 cd32 ct32), sl32⟩) (c32 : PySem.W.codeIn K cd32 "law" = true) (k32 : PySem.W.keepIn K (.ref f32) = true)
    {t_MOST_NUMBERS : Tok} (m_MOST_NUMBERS : PySem.W.nsIn K mainGlobals "MOST_NUMBERS" = some (some (.int (300) t_MOST_NUMBERS)))
    {t_MOST_THINGS : Tok} (m_MOST_THINGS : PySem.W.nsIn K mainGlobals "MOST_THINGS" = some (some (.int (300) t_MOST_THINGS)))
    (z_abs : PySem.W.nsIn K mainGlobals "abs" = some none)
    (z_all : PySem.W.nsIn K mainGlobals "all" = some none)
    (z_bool : PySem.W.nsIn K mainGlobals "bool" = some none)
    (z_enumerate : PySem.W.nsIn K mainGlobals "enumerate" = some none)
    (z_int : PySem.W.nsIn K mainGlobals "int" = some none)
    (z_isinstance : PySem.W.nsIn K mainGlobals "isinstance" = some none)
    (z_len : PySem.W.nsIn K mainGlobals "len" = some none)
    (z_list : PySem.W.nsIn K mainGlobals "list" = some none)
    (z_max : PySem.W.nsIn K mainGlobals "max" = some none)
    (z_min : PySem.W.nsIn K mainGlobals "min" = some none)
    (z_range : PySem.W.nsIn K mainGlobals "range" = some none)
    (z_sorted : PySem.W.nsIn K mainGlobals "sorted" = some none)
    (z_sum : PySem.W.nsIn K mainGlobals "sum" = some none)
    (z_tuple : PySem.W.nsIn K mainGlobals "tuple" = some none)
    (z_zip : PySem.W.nsIn K mainGlobals "zip" = some none)
    : ∃ fd : FuncData, (∀ (s : Shared) (v : Value), BindsTo s fd ⟨[v], []⟩ [("script", v)]) ∧ ∀ base : Heap, K.In base → base.Ns mainGlobals mg → FnG PySem.Challenge.rw_backafter_k93_whole_rings_of_products_an.prog w K mg base CX0 7 fa fd ["script"] (sp_law K) := by
  have e := hfa.symm.trans (PySem.W.mg_of X G a32)
  cases e
  let T : Txt K mg := {
    a_is_whole := _
    d_is_whole := _
    F_is_whole := fun_mk (st := s_is_whole) l0 c0 k0
    g_is_whole := PySem.W.mg_of X G a0
    a_rings_in := _
    d_rings_in := _
    F_rings_in := fun_mk (st := s_rings_in) l1 c1 k1
    g_rings_in := PySem.W.mg_of X G a1
    a_check_things := _
    d_check_things := _
    F_check_things := fun_mk (st := s_check_things) l2 c2 k2
    g_check_things := PySem.W.mg_of X G a2
    a_law_flask := _
    d_law_flask := _
    F_law_flask := fun_mk (st := s_law_flask) l3 c3 k3
    g_law_flask := PySem.W.mg_of X G a3
    a_law_sip := _
    d_law_sip := _
    F_law_sip := fun_mk (st := s_law_sip) l4 c4 k4
    g_law_sip := PySem.W.mg_of X G a4
    a_law_common := _
    d_law_common := _
    F_law_common := fun_mk (st := s_law_common) l5 c5 k5
    g_law_common := PySem.W.mg_of X G a5
    a_law_told_lengths := _
    d_law_told_lengths := _
    F_law_told_lengths := fun_mk (st := s_law_told_lengths) l6 c6 k6
    g_law_told_lengths := PySem.W.mg_of X G a6
    a_is_from_to := _
    d_is_from_to := _
    F_is_from_to := fun_mk (st := s_is_from_to) l7 c7 k7
    g_is_from_to := PySem.W.mg_of X G a7
    a_check_row := _
    d_check_row := _
    F_check_row := fun_mk (st := s_check_row) l8 c8 k8
    g_check_row := PySem.W.mg_of X G a8
    a_check_counts := _
    d_check_counts := _
    F_check_counts := fun_mk (st := s_check_counts) l9 c9 k9
    g_check_counts := PySem.W.mg_of X G a9
    a_check_shuffle := _
    d_check_shuffle := _
    F_check_shuffle := fun_mk (st := s_check_shuffle) l10 c10 k10
    g_check_shuffle := PySem.W.mg_of X G a10
    a_law_drawn := _
    d_law_drawn := _
    F_law_drawn := fun_mk (st := s_law_drawn) l11 c11 k11
    g_law_drawn := PySem.W.mg_of X G a11
    a_law_paired := _
    d_law_paired := _
    F_law_paired := fun_mk (st := s_law_paired) l12 c12 k12
    g_law_paired := PySem.W.mg_of X G a12
    a_law_fallen := _
    d_law_fallen := _
    F_law_fallen := fun_mk (st := s_law_fallen) l13 c13 k13
    g_law_fallen := PySem.W.mg_of X G a13
    a_law_places := _
    d_law_places := _
    F_law_places := fun_mk (st := s_law_places) l14 c14 k14
    g_law_places := PySem.W.mg_of X G a14
    a_check_many := _
    d_check_many := _
    F_check_many := fun_mk (st := s_check_many) l15 c15 k15
    g_check_many := PySem.W.mg_of X G a15
    a_new_numbers := _
    d_new_numbers := _
    F_new_numbers := fun_mk (st := s_new_numbers) l16 c16 k16
    g_new_numbers := PySem.W.mg_of X G a16
    a_row_of := _
    d_row_of := _
    F_row_of := fun_mk (st := s_row_of) l17 c17 k17
    g_row_of := PySem.W.mg_of X G a17
    a_added := _
    d_added := _
    F_added := fun_mk (st := s_added) l18 c18 k18
    g_added := PySem.W.mg_of X G a18
    a_multiplied := _
    d_multiplied := _
    F_multiplied := fun_mk (st := s_multiplied) l19 c19 k19
    g_multiplied := PySem.W.mg_of X G a19
    a_each := _
    d_each := _
    F_each := fun_mk (st := s_each) l20 c20 k20
    g_each := PySem.W.mg_of X G a20
    a_lengths := _
    d_lengths := _
    F_lengths := fun_mk (st := s_lengths) l21 c21 k21
    g_lengths := PySem.W.mg_of X G a21
    a_turned := _
    d_turned := _
    F_turned := fun_mk (st := s_turned) l22 c22 k22
    g_turned := PySem.W.mg_of X G a22
    a_beside := _
    d_beside := _
    F_beside := fun_mk (st := s_beside) l23 c23 k23
    g_beside := PySem.W.mg_of X G a23
    a_paired := _
    d_paired := _
    F_paired := fun_mk (st := s_paired) l24 c24 k24
    g_paired := PySem.W.mg_of X G a24
    a_shuffle_of := _
    d_shuffle_of := _
    F_shuffle_of := fun_mk (st := s_shuffle_of) l25 c25 k25
    g_shuffle_of := PySem.W.mg_of X G a25
    a_first_bar := _
    d_first_bar := _
    F_first_bar := fun_mk (st := s_first_bar) l26 c26 k26
    g_first_bar := PySem.W.mg_of X G a26
    a_back_row := _
    d_back_row := _
    F_back_row := fun_mk (st := s_back_row) l27 c27 k27
    g_back_row := PySem.W.mg_of X G a27
    a_lead := _
    d_lead := _
    F_lead := fun_mk (st := s_lead) l28 c28 k28
    g_lead := PySem.W.mg_of X G a28
    a_rings := _
    d_rings := _
    F_rings := fun_mk (st := s_rings) l29 c29 k29
    g_rings := PySem.W.mg_of X G a29
    a_law_shuffles_right := _
    d_law_shuffles_right := _
    F_law_shuffles_right := fun_mk (st := s_law_shuffles_right) l30 c30 k30
    g_law_shuffles_right := PySem.W.mg_of X G a30
    a_law_rows_right := _
    d_law_rows_right := _
    F_law_rows_right := fun_mk (st := s_law_rows_right) l31 c31 k31
    g_law_rows_right := PySem.W.mg_of X G a31
    a_law := _
    d_law := _
    F_law := fun_mk (st := s_law) l32 c32 k32
    g_law := PySem.W.mg_of X G a32
    t_MOST_NUMBERS := t_MOST_NUMBERS
    c_MOST_NUMBERS := PySem.W.mg_of X G m_MOST_NUMBERS
    t_MOST_THINGS := t_MOST_THINGS
    c_MOST_THINGS := PySem.W.mg_of X G m_MOST_THINGS
    z_abs := PySem.W.mg_none_of X G z_abs
    z_all := PySem.W.mg_none_of X G z_all
    z_bool := PySem.W.mg_none_of X G z_bool
    z_enumerate := PySem.W.mg_none_of X G z_enumerate
    z_int := PySem.W.mg_none_of X G z_int
    z_isinstance := PySem.W.mg_none_of X G z_isinstance
    z_len := PySem.W.mg_none_of X G z_len
    z_list := PySem.W.mg_none_of X G z_list
    z_max := PySem.W.mg_none_of X G z_max
    z_min := PySem.W.mg_none_of X G z_min
    z_range := PySem.W.mg_none_of X G z_range
    z_sorted := PySem.W.mg_none_of X G z_sorted
    z_sum := PySem.W.mg_none_of X G z_sum
    z_tuple := PySem.W.mg_none_of X G z_tuple
    z_zip := PySem.W.mg_none_of X G z_zip }
  exact ⟨T.d_law, fun s v => .of_eq rfl, fun base _ _ => ok_law T⟩
end My
open PySem PySem.W PyProof.Rows
set_option maxHeartbeats 0 in
theorem PySem.Challenge.cw_backafter_k93_whole_rings_of_products_an_holds : PySem.Challenge.rw_backafter_k93_whole_rings_of_products_an.Holds := by
  w_on; o_law; k_head; (case hw => w_witness2)
  k_fill
  refine Bk.walkG (l := PySem.Challenge.rw_backafter_k93_whole_rings_of_products_an) (n := 63) (k := 7) (x := "script") (CX := fun _ => L2.CX0) (sp := fun w => My.sp_law _) rfl (by decide) rfl ⟨⟨rfl, by decide, by decide⟩, rfl⟩ (fun w h Y => PySem.W.kIn_of Y) ?F (fun _ _ a ns hl _ hS => ⟨a, ns, rfl, hS, hl, fun _ => rfl⟩) (fun _ _ _ _ _ h => h)
  case F =>
    intro w mg fa h KX G hmg
    refine' My.all_mk KX G hmg ?a0 ?l0 ?c0 ?k0 ?a1 ?l1 ?c1 ?k1 ?a2 ?l2 ?c2 ?k2 ?a3 ?l3 ?c3 ?k3 ?a4 ?l4 ?c4 ?k4 ?a5 ?l5 ?c5 ?k5 ?a6 ?l6 ?c6 ?k6 ?a7 ?l7 ?c7 ?k7 ?a8 ?l8 ?c8 ?k8 ?a9 ?l9 ?c9 ?k9 ?a10 ?l10 ?c10 ?k10 ?a11 ?l11 ?c11 ?k11 ?a12 ?l12 ?c12 ?k12 ?a13 ?l13 ?c13 ?k13 ?a14 ?l14 ?c14 ?k14 ?a15 ?l15 ?c15 ?k15 ?a16 ?l16 ?c16 ?k16 ?a17 ?l17 ?c17 ?k17 ?a18 ?l18 ?c18 ?k18 ?a19 ?l19 ?c19 ?k19 ?a20 ?l20 ?c20 ?k20 ?a21 ?l21 ?c21 ?k21 ?a22 ?l22 ?c22 ?k22 ?a23 ?l23 ?c23 ?k23 ?a24 ?l24 ?c24 ?k24 ?a25 ?l25 ?c25 ?k25 ?a26 ?l26 ?c26 ?k26 ?a27 ?l27 ?c27 ?k27 ?a28 ?l28 ?c28 ?k28 ?a29 ?l29 ?c29 ?k29 ?a30 ?l30 ?c30 ?k30 ?a31 ?l31 ?c31 ?k31 ?a32 ?l32 ?c32 ?k32 ?m_MOST_NUMBERS ?m_MOST_THINGS ?z_abs ?z_all ?z_bool ?z_enumerate ?z_int ?z_isinstance ?z_len ?z_list ?z_max ?z_min ?z_range ?z_sorted ?z_sum ?z_tuple ?z_zip
    (case a0 => k_is); (case l0 => k_is); (case c0 => k_is); (case k0 => k_is); (case a1 => k_is); (case l1 => k_is); (case c1 => k_is); (case k1 => k_is); (case a2 => k_is); (case l2 => k_is); (case c2 => k_is); (case k2 => k_is); (case a3 => k_is); (case l3 => k_is); (case c3 => k_is); (case k3 => k_is); (case a4 => k_is); (case l4 => k_is); (case c4 => k_is); (case k4 => k_is); (case a5 => k_is); (case l5 => k_is); (case c5 => k_is); (case k5 => k_is); (case a6 => k_is); (case l6 => k_is); (case c6 => k_is); (case k6 => k_is); (case a7 => k_is); (case l7 => k_is); (case c7 => k_is); (case k7 => k_is); (case a8 => k_is); (case l8 => k_is); (case c8 => k_is); (case k8 => k_is); (case a9 => k_is); (case l9 => k_is); (case c9 => k_is); (case k9 => k_is); (case a10 => k_is); (case l10 => k_is); (case c10 => k_is); (case k10 => k_is); (case a11 => k_is); (case l11 => k_is); (case c11 => k_is); (case k11 => k_is); (case a12 => k_is); (case l12 => k_is); (case c12 => k_is); (case k12 => k_is); (case a13 => k_is); (case l13 => k_is); (case c13 => k_is); (case k13 => k_is); (case a14 => k_is); (case l14 => k_is); (case c14 => k_is); (case k14 => k_is); (case a15 => k_is); (case l15 => k_is); (case c15 => k_is); (case k15 => k_is); (case a16 => k_is); (case l16 => k_is); (case c16 => k_is); (case k16 => k_is); (case a17 => k_is); (case l17 => k_is); (case c17 => k_is); (case k17 => k_is); (case a18 => k_is); (case l18 => k_is); (case c18 => k_is); (case k18 => k_is); (case a19 => k_is); (case l19 => k_is); (case c19 => k_is); (case k19 => k_is); (case a20 => k_is); (case l20 => k_is); (case c20 => k_is); (case k20 => k_is); (case a21 => k_is); (case l21 => k_is); (case c21 => k_is); (case k21 => k_is); (case a22 => k_is); (case l22 => k_is); (case c22 => k_is); (case k22 => k_is); (case a23 => k_is); (case l23 => k_is); (case c23 => k_is); (case k23 => k_is); (case a24 => k_is); (case l24 => k_is); (case c24 => k_is); (case k24 => k_is); (case a25 => k_is); (case l25 => k_is); (case c25 => k_is); (case k25 => k_is); (case a26 => k_is); (case l26 => k_is); (case c26 => k_is); (case k26 => k_is); (case a27 => k_is); (case l27 => k_is); (case c27 => k_is); (case k27 => k_is); (case a28 => k_is); (case l28 => k_is); (case c28 => k_is); (case k28 => k_is); (case a29 => k_is); (case l29 => k_is); (case c29 => k_is); (case k29 => k_is); (case a30 => k_is); (case l30 => k_is); (case c30 => k_is); (case k30 => k_is); (case a31 => k_is); (case l31 => k_is); (case c31 => k_is); (case k31 => k_is); (case a32 => k_is); (case l32 => k_is); (case c32 => k_is); (case k32 => k_is); (case m_MOST_NUMBERS => k_is); (case m_MOST_THINGS => k_is); (case z_abs => k_is); (case z_all => k_is); (case z_bool => k_is); (case z_enumerate => k_is); (case z_int => k_is); (case z_isinstance => k_is); (case z_len => k_is); (case z_list => k_is); (case z_max => k_is); (case z_min => k_is); (case z_range => k_is); (case z_sorted => k_is); (case z_sum => k_is); (case z_tuple => k_is); (case z_zip => k_is)
